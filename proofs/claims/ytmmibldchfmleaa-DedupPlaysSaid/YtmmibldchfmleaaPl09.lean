/-
  Dedup, the reference: Packs, pure.
-/
import Derived.Test.YtmmibldchfmleaaPl04
import Derived.Test.YtmmibldchfmleaaPl07
import Derived.Test.YtmmibldchfmleaaPl02
import Derived.Maps.AppendAt
import Derived.Test.YtmmibldchfmleaaPl08
import Derived.Test.YtmmibldchfmleaaPl03
namespace Go.Proofs.Ytmmibldchfmleaa
open Go.RowKit
section
variable {W W' : World} {B base : Nat} {ts te : TypeId} {size n k c : Nat} {v : Value} {xs ys : List Value} {A : Option Addr}
theorem row_slice (h : W.ownsRow base te size v k xs) : ∃ A c, v = .slice A k c ∧ k ≤ c := by
 rcases h.2 with ⟨rfl, h2⟩ | ⟨g, cap, cur, rfl, _, _, hn, _⟩
 ·exact ⟨none, 0, by rw [h2], by omega⟩
 ·exact ⟨_, cap, rfl, hn⟩
theorem row_keep (h : W.ownsRow base te size v n xs) (hb : ∀ q, v.ownBlock = some q → W'.heap[q]? = W.heap[q]?) : W'.ownsRow base te size v n xs := by
 refine ⟨h.1, ?_⟩
 rcases h.2 with h2 | ⟨g, cap, cur, rfl, h3, h4, h5⟩
 ·exact .inl h2
 ·exact .inr ⟨g, cap, cur, rfl, h3, by rw [hb g rfl]; exact h4, h5⟩
theorem row_below (h : W.ownsRow base te size v n xs) (hb : Below W.heap.size W W') : W'.ownsRow base te size v n xs :=
 row_keep h fun q hq => hb.block q (h.lt q hq).2
theorem row_base (h : W.ownsRow base te size v n xs) (hb : B ≤ base) : W.ownsRow B te size v n xs :=
 ⟨h.1, h.2.imp id fun ⟨g, cap, cur, h1, h2, h3⟩ => ⟨g, cap, cur, h1, Nat.le_trans hb h2, h3⟩⟩
theorem row_cells (h : W.ownsRow base te size (.slice A n c) n xs) (h0 : 0 < n) : ∃ g, A = some ⟨g, 0, none⟩ ∧ base ≤ g ∧ g < W.heap.size ∧ (∃ cs, W.heap[g]? = some (.cells cs te (0, 0)) ∧ cs.size = c * size ∧ cs.toList.take (n * size) = xs) ∧ n ≤ c ∧ c ≤ maxLen ∧ ∀ j u, xs[j]? = some u → W.cell? ⟨g, j, none⟩ = some u := by
 rcases h.2 with ⟨e, e0⟩ | ⟨g, cap, cur, e, hb, hg, hc, hm, hs, ht⟩
 ·omega
 ·injection e with e1 e2 e3
  subst e1 e3
  refine ⟨g, rfl, hb, lt_of_cells hg, ⟨cur, hg, hs, ht⟩, hc, hm, fun j u hu => ?_⟩
  have hj := (List.getElem?_eq_some_iff.1 hu).1
  rw [h.1] at hj
  rw [h.cellAt j hj, hu]
set_option maxRecDepth 100000 in
theorem gapp {i0 : TypeInfo} {z : Value} {bytes : Nat} (hts : Try.prog.underlying ts = some (.slice te)) (hi : Try.prog.info? te = some i0) (hz0 : i0.zero = some z) (hz1 : i0.size = size) (hz2 : i0.bytes = bytes) (hzs : z.cells.size = size) (hsz : 0 < size)
    (hown : W.ownsRow B te size v k xs) (hl : ys.length = n * size) (h0 : 0 < n → ∃ ad, A = some ad ∧ ∀ j u, ys[j]? = some u → W.cell? (ad.add j) = some u) (h1 : ∀ u ∈ ys, u.oneCell' = true) (hb : k + n ≤ 1000000) (hby : bytes ≤ 1000) (hB : B ≤ W.heap.size) (ty : TypeId) :
    ∃ A' c' W', (Builtin.append_ #[ts, ts] ty #[v, .slice A n c]).run Try.prog W = .ok (.slice A' (k + n) c') W' ∧ W'.ownsRow B te size (.slice A' (k + n) c') (k + n) (xs ++ ys) ∧ Below B W W' := by
 obtain ⟨A1, c1, rfl, hkc⟩ := row_slice hown
 rcases A with _ | ad
 ·obtain rfl : n = 0 := by
    rcases Nat.eq_zero_or_pos n with h | h
    ·exact h
    ·obtain ⟨_, hA, _⟩ := h0 h
     cases hA
  obtain rfl : ys = [] := List.eq_nil_of_length_eq_zero (by omega)
  refine ⟨A1, c1, W, ?_, ?_, Below.refl _ _⟩
  ·exact run_append_zero (P := Try.prog) W ts ty te i0 hts hi A1 k c1 c hkc
  ·rw [List.append_nil]
   exact hown
 ·obtain ⟨v', W', hrun, r1, r2, _⟩ := run_append_own (P := Try.prog) W B ts ty te i0 z size bytes hts hi hz0 hz1 hz2 hzs hsz (.slice A1 k c1) k xs hown ad n c ys hl
    (fun j u hj => by
      have hj' := (List.getElem?_eq_some_iff.1 hj).1
      rcases Nat.eq_zero_or_pos n with h | h
      ·rw [hl, h] at hj'; omega
      ·obtain ⟨_, hA, hr⟩ := h0 h
       injection hA with hA
       subst hA
       exact hr j u hj) h1 (by unfold maxLen; omega) (by have := Nat.mul_le_mul hb hby; omega) hB
  obtain ⟨A', c', rfl, _⟩ := row_slice r1
  exact ⟨A', c', W', hrun, r1, (Below.refl B W).grown r2 hB fun k hk => (hown.lt k hk).1⟩
theorem run_gto (hts : Try.prog.underlying ts = some (.slice te)) (hsz : ∀ w, (Go.sizeOf te).run Try.prog w = .ok size w) (A : Option Addr) (n c k : Nat) (hk : k ≤ c) (W : World) : (Instr.slice ts (.slice A n c) none (some (.int .i64 (k : Int))) none).run Try.prog W = .ok (.slice A k c) W := by
 have ht' : Try.prog.underlying ts = some (.slice (Try.prog.elem ts)) := by simp [Program.elem, hts]
 have he : Try.prog.elem ts = te := by simp [Program.elem, hts]
 rw [run_slice_h W ts A n c ht' .i64 (k : Int) (by omega) (by omega), he, hsz]
 have h0 : ∀ a : Addr, a.add 0 = a := fun a => by simp [Addr.add]
 cases A <;> simp [Result.andThen, sliced, h0]
def cutG (size : Nat) (A : Option Addr) (c k : Nat) : Option Addr := if c = k then A else A.map (·.add (k * size))
theorem run_gfrom (hts : Try.prog.underlying ts = some (.slice te)) (hsz : ∀ w, (Go.sizeOf te).run Try.prog w = .ok size w) (A : Option Addr) (n c k : Nat) (hk : k ≤ n) (W : World) : (Instr.slice ts (.slice A n c) (some (.int .i64 (k : Int))) none none).run Try.prog W = .ok (.slice (cutG size A c k) (n - k) (c - k)) W := by
 have ht' : Try.prog.underlying ts = some (.slice (Try.prog.elem ts)) := by simp [Program.elem, hts]
 have he : Try.prog.elem ts = te := by simp [Program.elem, hts]
 rw [run_slice_l W ts A n c ht' .i64 (k : Int) (by omega) (by omega), he, hsz]
 simp [Result.andThen, sliced, cutG]
def RowAt (W : World) (A : Option Addr) (M : Nat) (xs : List Value) : Prop := 0 < M → ∃ b off, A = some ⟨b, off, none⟩ ∧ b < W.heap.size ∧ ∀ j u, xs[j]? = some u → W.cell? ⟨b, off + j, none⟩ = some u
theorem row_at (h : W.ownsRow base te size (.slice A n c) n xs) : RowAt W A n xs := fun h0 => by
 obtain ⟨g, rfl, _, hg, _, _, _, hc⟩ := row_cells h h0
 exact ⟨g, 0, rfl, hg, fun j u hu => by rw [Nat.zero_add]; exact hc j u hu⟩
theorem row_to (h : RowAt W A n xs) (hk : k ≤ n) (hw : Below W.heap.size W W') : 0 < k → ∃ ad, A = some ad ∧ ∀ j u, (xs.take (k * size))[j]? = some u → W'.cell? (ad.add j) = some u := fun h0 => by
 obtain ⟨g, off, rfl, hg, hc⟩ := h (by omega)
 refine ⟨_, rfl, fun j u hu => ?_⟩
 have hj := (List.getElem?_eq_some_iff.1 hu).1
 rw [List.length_take] at hj
 rw [List.getElem?_take_of_lt (by omega)] at hu
 rw [add_plain, hw.cell (p := ⟨g, _, none⟩) hg, hc j u hu]
theorem row_from (h : RowAt W A n xs) (hn : n ≤ c) (hk : k ≤ n) (hw : Below W.heap.size W W') : 0 < n - k → ∃ ad, cutG size A c k = some ad ∧ ∀ j u, (xs.drop (k * size))[j]? = some u → W'.cell? (ad.add j) = some u := fun h0 => by
 obtain ⟨g, off, rfl, hg, hc⟩ := h (by omega)
 refine ⟨(⟨g, off, none⟩ : Addr).add (k * size), by unfold cutG; rw [if_neg (by omega)]; rfl, fun j u hu => ?_⟩
 rw [List.getElem?_drop] at hu
 have h1 := hc _ u hu
 rw [add_plain, add_plain, Nat.add_assoc, hw.cell (p := ⟨g, _, none⟩) hg, h1]
set_option maxRecDepth 100000 in
theorem gins {i0 : TypeInfo} {z : Value} {bytes M : Nat} {pc : List Value} (hts : Try.prog.underlying ts = some (.slice te)) (hi : Try.prog.info? te = some i0) (hz0 : i0.zero = some z) (hz1 : i0.size = size) (hz2 : i0.bytes = bytes) (hzs : z.cells.size = size) (hsz : 0 < size)
    (hxl : xs.length = M * size) (hat : RowAt W A M xs) (hc : M ≤ c) (hk : k ≤ M) (hM : M ≤ 100000) (hx1 : ∀ u ∈ xs, u.oneCell' = true) (hp : pc.length = size) (hp1 : ∀ u ∈ pc, u.oneCell' = true) (hby : bytes ≤ 1000) (ty : TypeId) :
    ∃ A1 c1 W1 A2 c2 W2 A3 c3 W3, (Builtin.append_ #[ts, ts] ty #[.slice none 0 0, .slice A k c]).run Try.prog W = .ok (.slice A1 k c1) W1 ∧
      (Builtin.append_ #[ts, ts] ty #[.slice A1 k c1, .slice (some ⟨W1.heap.size, 0, none⟩) 1 1]).run Try.prog (W1.alloc (.cells pc.toArray te)) = .ok (.slice A2 (k + 1) c2) W2 ∧
      (Builtin.append_ #[ts, ts] ty #[.slice A2 (k + 1) c2, .slice (cutG size A c k) (M - k) (c - k)]).run Try.prog W2 = .ok (.slice A3 (M + 1) c3) W3 ∧
      W3.ownsRow W.heap.size te size (.slice A3 (M + 1) c3) (M + 1) (xs.take (k * size) ++ pc ++ xs.drop (k * size)) ∧ Below W.heap.size W W1 ∧ Below W.heap.size W W2 ∧ Below W.heap.size W W3 := by
 have hkm : k * size ≤ M * size := Nat.mul_le_mul_right _ hk
 obtain ⟨A1, c1, W1, r1, o1, b1⟩ := gapp (W := W) (B := W.heap.size) (v := .slice none 0 0) (k := 0) (xs := []) (n := k) (c := c) (ys := xs.take (k * size)) hts hi hz0 hz1 hz2 hzs hsz (World.ownsRow_nil _ _ _ _) (by rw [List.length_take]; omega) (row_to hat hk (Below.refl _ _)) (fun u hu => hx1 u (List.mem_of_mem_take hu)) (by omega) hby (Nat.le_refl _) ty
 rw [Nat.zero_add] at r1 o1
 rw [List.nil_append] at o1
 have hb1 : Below W.heap.size W (W1.alloc (.cells pc.toArray te)) := b1.alloc b1.size _
 obtain ⟨A2, c2, W2, r2, o2, b2⟩ := gapp (W := W1.alloc (.cells pc.toArray te)) (B := W.heap.size) (v := .slice A1 k c1) (k := k) (A := some ⟨W1.heap.size, 0, none⟩) (n := 1) (c := 1) (ys := pc) hts hi hz0 hz1 hz2 hzs hsz (row_below o1 ((Below.refl _ _).alloc (Nat.le_refl _) _)) (by omega)
  (fun _ => ⟨_, rfl, fun j u hu => by rw [add_plain, Nat.zero_add, cell_of_cells (heap_alloc_new W1 _), List.getElem?_toArray, hu]⟩) hp1 (by omega) hby hb1.size ty
 have hb2 : Below W.heap.size W W2 := hb1.trans b2
 obtain ⟨A3, c3, W3, r3, o3, b3⟩ := gapp (W := W2) (B := W.heap.size) (v := .slice A2 (k + 1) c2) (k := k + 1) (A := cutG size A c k) (n := M - k) (c := c - k) (ys := xs.drop (k * size)) hts hi hz0 hz1 hz2 hzs hsz o2 (by rw [List.length_drop, hxl, Nat.sub_mul]) (row_from hat hc hk hb2) (fun u hu => hx1 u (List.mem_of_mem_drop hu)) (by omega) hby hb2.size ty
 rw [show k + 1 + (M - k) = M + 1 by omega] at r3 o3
 exact ⟨A1, c1, W1, A2, c2, W2, A3, c3, W3, r1, r2, r3, o3, b1, hb2, hb2.trans b3⟩
end
theorem id_sizeOf (w : World) : (Go.sizeOf 31).run Try.prog w = .ok 32 w := by
 obtain ⟨i0, hi, _, hz1, _⟩ := info_parts id_info3
 simp [Go.sizeOf, typeInfo, hi, hz1, Sem.run_bind]
end Go.Proofs.Ytmmibldchfmleaa

namespace Go.Proofs.Ytmmibldchfmleaa
open Go.RowKit Go.Maps Codec
theorem cut_sv {t : Tv Pl} (hs : Sv t) {k : List UInt8} : ∀ {j : Nat}, j ≤ t.length → (∀ e ∈ t.take j, e.1 < k) → (∀ e, t[j]? = some e → ¬ e.1 < k) → getV t k = none → (v : Pl) → putV t k v = t.take j ++ [(k, v)] ++ t.drop j := by
 intro j hj h1 h2 h3 v
 have hne : ∀ e ∈ t, e.1 ≠ k := fun e he e1 => by
  have : (getV t k).isSome = true := getV_isSome.2 (List.mem_map.2 ⟨e, he, e1⟩)
  rw [h3] at this
  cases this
 have hd : ∀ e ∈ t.drop j, k < e.1 := by
  rcases hq : t.drop j with _ | ⟨x, u⟩
  ·intro e he; simp at he
  ·have hx : t[j]? = some x := by rw [← List.head?_drop, hq]; rfl
   have hxk : k < x.1 := Decidable.byContradiction fun h => hne x (List.mem_of_getElem? hx) (klt_tri (h2 x hx) h)
   have hp : (x :: u).Pairwise fun a b => a.1 < b.1 := by rw [← hq]; exact List.Pairwise.drop hs
   intro e he
   rcases List.mem_cons.1 he with rfl | he
   ·exact hxk
   ·exact klt_tr hxk ((List.pairwise_cons.1 hp).1 e he)
 have e1 : t.filter (fun p => decide (p.1 < k)) = t.take j := by
  conv => lhs; rw [← List.take_append_drop j t]
  rw [List.filter_append, List.filter_eq_self.2 (fun e he => by simpa using h1 e he), List.filter_eq_nil_iff.2 (fun e he => by simpa using klt_as (hd e he)), List.append_nil]
 have e2 : t.filter (fun p => decide (k < p.1)) = t.drop j := by
  conv => lhs; rw [← List.take_append_drop j t]
  rw [List.filter_append, List.filter_eq_nil_iff.2 (fun e he => by simpa using klt_as (h1 e he)), List.filter_eq_self.2 (fun e he => by simpa using hd e he), List.nil_append]
 unfold putV
 rw [e1, e2]
theorem Es.rowAt {w : World} {S : Nat → Prop} {A : Option Addr} {n c : Nat} {t : Tv Pl} (h : Es w S A n c t) : RowAt w A n (eCs t) := fun h0 => by
 obtain ⟨b, off, hA, _, hlt, hc⟩ := h.row h0
 refine ⟨b, off, hA, hlt, fun j x hj => ?_⟩
 have hjl := (List.getElem?_eq_some_iff.1 hj).1
 rw [eCs_len h.each, h.len] at hjl
 obtain ⟨i, r, hir, hr⟩ : ∃ i r, j = i * 65 + r ∧ r < 65 := ⟨j / 65, j % 65, by omega, Nat.mod_lt _ (by omega)⟩
 subst hir
 have hiu : i < t.length := by rw [h.len]; omega
 have he : t[i]? = some t[i] := List.getElem?_eq_getElem hiu
 have hel := eC_len (h.each _ (List.getElem_mem hiu)).1 (h.each _ (List.getElem_mem hiu)).2
 obtain ⟨y, hy⟩ : ∃ y, (eC t[i])[r]? = some y := ⟨_, List.getElem?_eq_getElem (l := eC t[i]) (i := r) (show r < (eC t[i]).length by omega)⟩
 have h1 := eCs_at h.each he hy
 rw [hj] at h1
 rw [hc i _ he r y hy, h1]
theorem eCs_one (t : Tv Pl) : ∀ u ∈ eCs t, u.oneCell' = true := fun u hu => by
 obtain ⟨e, _, hu⟩ := List.mem_flatMap.1 hu
 exact List.all_eq_true.1 (eC_one e) u hu
theorem eCs_app (t u : Tv Pl) : eCs (t ++ u) = eCs t ++ eCs u := by simp [eCs]
theorem eCs_parts {t : Tv Pl} (h : ∀ e ∈ t, e.1.length = 32 ∧ e.2.1.length = 32) (e : List UInt8 × Pl) {k : Nat} (hk : k ≤ t.length) : (eCs t).take (k * 65) ++ eC e ++ (eCs t).drop (k * 65) = eCs (t.take k ++ [e] ++ t.drop k) := by
 have h4 : (eCs (t.take k)).length = k * 65 := by rw [eCs_len fun x hx => h x (List.mem_of_mem_take hx), List.length_take]; congr 1; omega
 have h3 : eCs t = eCs (t.take k) ++ eCs (t.drop k) := by rw [← eCs_app, List.take_append_drop]
 rw [h3, List.take_append_of_le_length (by omega), List.take_of_length_le (by omega), List.drop_append_of_le_length (by omega), List.drop_of_length_le (by omega), eCs_app, eCs_app]
 simp [eCs]
set_option maxHeartbeats 4000000 in
set_option maxRecDepth 100000 in
theorem dradd_any {w : World} {S : Nat → Prop} {A : Option Addr} {n c : Nat} {t : Tv Pl} (h : Es w S A n c t) (hs : Sv t) (hn : n ≤ 100000) {e : List UInt8 × Pl} (h1 : e.1.length = 32) (h2 : e.2.1.length = 32) :
    Calls Try.prog 14 #[.slice A n c, .agg (eC e).toArray] w fun r w' => ∃ A' c', r = .returned (.tuple #[.slice A' (addT t e.1 e.2).length c', .bool (addB t e.1 e.2)]) ∧ Es w' (fun _ => True) A' (addT t e.1 e.2).length c' (addT t e.1 e.2) ∧ Below w.heap.size w w' := by
 obtain ⟨ES, hES⟩ : ∃ ES, ES = (eC e).toArray := ⟨_, rfl⟩
 have hb1 : Below w.heap.size w (w.alloc (.cells ES 41)) := (Below.refl _ _).alloc (Nat.le_refl _) _
 have hr1 := heap_alloc_new w (.cells ES 41)
 have hu1 : (u8s e.1).length = 32 := by simp [u8s, h1]
 have hu2 : (u8s e.2.1).length = 32 := by simp [u8s, h2]
 obtain ⟨KS, hKS⟩ : ∃ KS, KS = row8 e.1 := ⟨_, rfl⟩
 obtain ⟨X, hX⟩ : ∃ X, X = e.2.2 := ⟨_, rfl⟩
 have HES : Hid (ES = (eC e).toArray ∧ ES.size = 65 ∧ KS.size = 32 ∧ (∀ u v, (row8 e.1)[u]? = some v → ES[u]? = some v) ∧ ES[64]? = some (.int .i64 X)) := Lib.hid ⟨hES, by rw [hES, List.size_toArray, eC_len h1 h2], by rw [hKS, row8_size, h1], fun u v hu => by
     rw [row8, List.getElem?_toArray] at hu
     have hl : u < 32 := by rw [← hu1]; exact (List.getElem?_eq_some_iff.1 hu).1
     rw [hES, List.getElem?_toArray, eC, List.getElem?_append_left (by omega)]
     exact hu, by
     rw [hES, List.getElem?_toArray, eC, List.getElem?_append_right (by omega), hu1, List.getElem?_append_right (by omega), hu2, hX]
     rfl⟩
 have HH := Lib.hid (And.intro h (And.intro h.len (And.intro hn (And.intro hs (And.intro h1 h2)))))
 have hfd := drfind_any (h.below hb1) (by omega) h1
 rw [← hKS] at hfd
 have H1 := Lib.hid (And.intro hb1 hr1)
 rw [← hES]
 have HX := Lib.hid (And.intro hKS hX)
 clear h hs hn h1 h2 hb1 hr1 hES hu1 hu2 hKS hX
 have HC0 : Hid (∀ u v, KS[u]? = some v → (w.alloc (.cells ES 41)).cell? ((⟨w.heap.size, 0, none⟩ : Addr).add u) = some v) := Lib.hid fun u v hu => by
  rw [add_plain, Nat.zero_add, cell_of_cells H1.out.2]
  exact HES.out.2.2.2.1 u v (by rw [← HX.out.1]; exact hu)
 rcases hZ : (getV t e.1).isSome with _ | _
 ·by_cases hX0 : X < 0
  ·have hB : addB t e.1 e.2 = false := by
     have h2 := HX.out.2
     unfold addB mayN
     rw [hZ, ← h2]
     simp
     omega
   have hT : addT t e.1 e.2 = t := by unfold addT; rw [hB]; rfl
   have HB := Lib.hid (And.intro hB hT)
   clear hB hT
   rw [hZ] at hfd
   clear hZ
   go_enter Try.func14, Try.ntmps14
   go_wp2_with (first
    | (refine wpList_load_at (by rfl) 31 (.tmp 9) (by rfl) ⟨w.heap.size, 0, none⟩ (by rfl) KS _ HC0.out Try.underlying31 (by rfl) (by rw [HES.out.2.2.1]; exact id_info) ?_)
    | (go_at_call 16; refine hfd.mono ?_; clear hfd; rintro _ w2 ⟨x, rfl, hx, hb2⟩
       have H2 : Hid (w2.heap[w.heap.size]? = some (.cells ES 41 (0, 0)) ∧ Below w.heap.size w w2 ∧ w.heap.size < w2.heap.size) := Lib.hid ⟨(hb2.block _ (lt_of_cells H1.out.2)).trans H1.out.2, H1.out.1.trans (hb2.mono H1.out.1.size), Nat.lt_of_lt_of_le (lt_of_cells H1.out.2) hb2.size⟩
       clear hb2
       have hcx : w2.cell? ⟨w.heap.size, 64, none⟩ = some (.int .i64 X) := (cell_of_cells H2.out.1 64).trans HES.out.2.2.2.2
       have hx0 : ¬ 0 ≤ x := by simpa using hx
       clear hx))
   go_ret2
   rw [HB.out.1, HB.out.2, HH.out.2.1]
   exact ⟨A, c, rfl, (HH.out.1.below H2.out.2.1).mono fun _ _ _ => trivial, H2.out.2.1⟩
  ·by_cases hX1 : X > 1023
   ·have hB : addB t e.1 e.2 = false := by
      have h2 := HX.out.2
      unfold addB mayN
      rw [hZ, ← h2]
      simp
      omega
    have hT : addT t e.1 e.2 = t := by unfold addT; rw [hB]; rfl
    have HB := Lib.hid (And.intro hB hT)
    clear hB hT
    rw [hZ] at hfd
    clear hZ
    go_enter Try.func14, Try.ntmps14
    go_wp2_with (first
     | (refine wpList_load_at (by rfl) 31 (.tmp 9) (by rfl) ⟨w.heap.size, 0, none⟩ (by rfl) KS _ HC0.out Try.underlying31 (by rfl) (by rw [HES.out.2.2.1]; exact id_info) ?_)
     | (go_at_call 16; refine hfd.mono ?_; clear hfd; rintro _ w2 ⟨x, rfl, hx, hb2⟩
        have H2 : Hid (w2.heap[w.heap.size]? = some (.cells ES 41 (0, 0)) ∧ Below w.heap.size w w2 ∧ w.heap.size < w2.heap.size) := Lib.hid ⟨(hb2.block _ (lt_of_cells H1.out.2)).trans H1.out.2, H1.out.1.trans (hb2.mono H1.out.1.size), Nat.lt_of_lt_of_le (lt_of_cells H1.out.2) hb2.size⟩
        clear hb2
        have hcx : w2.cell? ⟨w.heap.size, 64, none⟩ = some (.int .i64 X) := (cell_of_cells H2.out.1 64).trans HES.out.2.2.2.2
        have hx0 : ¬ 0 ≤ x := by simpa using hx
        clear hx))
    go_ret2
    rw [HB.out.1, HB.out.2, HH.out.2.1]
    exact ⟨A, c, rfl, (HH.out.1.below H2.out.2.1).mono fun _ _ _ => trivial, H2.out.2.1⟩
   ·have hB : addB t e.1 e.2 = true := by
      have h2 := HX.out.2
      unfold addB mayN
      rw [hZ, ← h2]
      simp
      omega
    have hG : getV t e.1 = none := by simpa using hZ
    have HB := Lib.hid (And.intro hB hG)
    clear hB hG
    rw [hZ] at hfd
    clear hZ
    go_enter Try.func14, Try.ntmps14
    go_wp2_with (first
     | (refine wpList_load_at (by rfl) 31 (.tmp 9) (by rfl) ⟨w.heap.size, 0, none⟩ (by rfl) KS _ HC0.out Try.underlying31 (by rfl) (by rw [HES.out.2.2.1]; exact id_info) ?_)
     | (go_at_call 16; refine hfd.mono ?_; clear hfd; rintro _ w2 ⟨x, rfl, hx, hb2⟩
        have H2 : Hid (w2.heap[w.heap.size]? = some (.cells ES 41 (0, 0)) ∧ Below w.heap.size w w2 ∧ w.heap.size < w2.heap.size) := Lib.hid ⟨(hb2.block _ (lt_of_cells H1.out.2)).trans H1.out.2, H1.out.1.trans (hb2.mono H1.out.1.size), Nat.lt_of_lt_of_le (lt_of_cells H1.out.2) hb2.size⟩
        clear hb2
        have hcx : w2.cell? ⟨w.heap.size, 64, none⟩ = some (.int .i64 X) := (cell_of_cells H2.out.1 64).trans HES.out.2.2.2.2
        have hx0 : ¬ 0 ≤ x := by simpa using hx
        clear hx))
    obtain ⟨q, hq⟩ : ∃ q, q = w.heap.size := ⟨_, rfl⟩
    rw [← hq] at H2 hcx ⊢
    have HQ := Lib.hid hq
    clear hq hx0 hX0 hX1 hcx
    go_loopw [6] (fun i wr => ∃ j m : Nat, j ≤ n ∧ i = .int .i64 (j : Int) ∧ wr = w2.drewN m ∧ ∀ y ∈ t.take j, y.1 < e.1) (fun i _ => n - (intOf i).toNat)
    case atStart => exact ⟨0, 0, Nat.zero_le _, rfl, rfl, by simp⟩
    case round =>
     obtain ⟨j, m, hj, rfl, rfl, hbe⟩ := hrel
     have hbx : Byt (w2.drewN m).drew (fun _ => True) (some ⟨q, 0, none⟩) 32 32 e.1 := esByt (fun u v hu => by
      rw [add_plain, Nat.zero_add]
      exact (cell_of_cells H2.out.1 u).trans (HES.out.2.2.2.1 u v hu)) (by show q < w2.heap.size; exact H2.out.2.2) HH.out.2.2.2.2.1
     have hes : Es (w2.drewN m).drew S A n c t := HH.out.1.below (by have h := H2.out.2.1; rw [HQ.out] at h; exact below_drew (below_drewN h m))
     by_cases hlt : j < n
     ·have hlt' : (j : Int) < (n : Int) := by omega
      obtain ⟨b, off, y, rfl, hbl, hy, hy1, _, hc, _, _⟩ := hes.at_ hlt
      have hby := esByt hc hbl hy1
      obtain ⟨Z, hZ⟩ : ∃ Z, Z = decide (y.1 < e.1) := ⟨_, rfl⟩
      have hls : Op.bytesLess (st y.1).toList (st e.1).toList = Z := by rw [st_list, st_list, bytes_less, hZ]
      have hC : (fun W : World => Byt W (fun _ => True) (some ⟨b, off + j * 65, none⟩) 32 32 y.1 ∧ Byt W (fun _ => True) (some ⟨q, 0, none⟩) 32 32 e.1) (w2.drewN m).drew := ⟨hby, hbx⟩
      obtain ⟨SY, hSY⟩ : ∃ SY, SY = st y.1 := ⟨_, rfl⟩
      obtain ⟨SE, hSE⟩ : ∃ SE, SE = st e.1 := ⟨_, rfl⟩
      rw [← hSY, ← hSE] at hls
      have HSS := Lib.hid (And.intro hSY hSE)
      have hjj := IntWalk.i64_in ((j : Int) + 1) (by have := HH.out.2.2.1; omega)
      have HJ := Lib.hid (And.intro hlt (And.intro hbe (And.intro hy (And.intro hZ (And.intro hes hbx)))))
      clear hZ hSY hSE hy hy1 hc hby hbl hbe hbx hes hj hlt
      go_wp2
      refine wp_region_plan (fun W : World => Byt W (fun _ => True) (some ⟨b, off + j * 65, none⟩) 32 32 y.1 ∧ Byt W (fun _ => True) (some ⟨q, 0, none⟩) 32 32 e.1) [] [0, 1, 2, 3, 4, 5, 6, 7, 8, 9, 10, 11, 12, 13, 14, 15] (by kernel_rfl) (by kernel_rfl) (fun _ _ d _ _ h => by cases d <;> exact h) hC ?_
      refine plan_last ?_
      refine seg_read ?v1 (by rfl) (by rfl) ?h1 ?_
      case h1 => intro W hW; go_simp; with_reducible rfl
      try simp only [Act.put, List.setIfInBounds_toArray, List.set_cons_zero, List.set_cons_succ]
      refine seg_read ?v2 (by rfl) (by rfl) ?h2 ?_
      case h2 => intro W hW; go_simp; with_reducible rfl
      try simp only [Act.put, List.setIfInBounds_toArray, List.set_cons_zero, List.set_cons_succ]
      refine seg_read ?v3 (by rfl) (by rfl) ?h3 ?_
      case h3 => intro W hW; go_simp; with_reducible rfl
      try simp only [Act.put, List.setIfInBounds_toArray, List.set_cons_zero, List.set_cons_succ]
      refine seg_read ?v4 (by rfl) (by rfl) ?h4 ?_
      case h4 => intro W hW; go_simp; with_reducible rfl
      try simp only [Act.put, List.setIfInBounds_toArray, List.set_cons_zero, List.set_cons_succ]
      refine seg_read ?v5 (by rfl) (by rfl) ?h5 ?_
      case h5 => intro W hW; go_simp; with_reducible rfl
      try simp only [Act.put, List.setIfInBounds_toArray, List.set_cons_zero, List.set_cons_succ]
      refine seg_read ?v6 (by rfl) (by rfl) ?h6 ?_
      case h6 => intro W hW; go_simp; with_reducible rfl
      try simp only [Act.put, List.setIfInBounds_toArray, List.set_cons_zero, List.set_cons_succ]
      refine seg_read ?v7 (by rfl) (by rfl) ?h7 ?_
      case h7 => intro W hW; go_simp; with_reducible rfl
      try simp only [Act.put, List.setIfInBounds_toArray, List.set_cons_zero, List.set_cons_succ]
      refine seg_read ?v8 (by rfl) (by rfl) ?h8 ?_
      case h8 => intro W hW; go_simp; with_reducible rfl
      try simp only [Act.put, List.setIfInBounds_toArray, List.set_cons_zero, List.set_cons_succ]
      refine seg_read ?v9 (by rfl) (by rfl) ?h9 ?_
      case h9 => intro W hW; go_simp; with_reducible rfl
      try simp only [Act.put, List.setIfInBounds_toArray, List.set_cons_zero, List.set_cons_succ]
      refine seg_read ?v10 (by rfl) (by rfl) ?h10 ?_
      case h10 => intro W hW; go_simp; with_reducible rfl
      try simp only [Act.put, List.setIfInBounds_toArray, List.set_cons_zero, List.set_cons_succ]
      refine seg_read ?v11 (by rfl) (by rfl) ?h11 ?_
      case h11 => intro W hW; have hcv := byt_string hW.1; rw [show (⟨y.1.toArray⟩ : ByteArray) = SY from HSS.out.1.symm] at hcv; go_simp; with_reducible rfl
      try simp only [Act.put, List.setIfInBounds_toArray, List.set_cons_zero, List.set_cons_succ]
      refine seg_read ?v12 (by rfl) (by rfl) ?h12 ?_
      case h12 => intro W hW; go_simp; with_reducible rfl
      try simp only [Act.put, List.setIfInBounds_toArray, List.set_cons_zero, List.set_cons_succ]
      refine seg_read ?v13 (by rfl) (by rfl) ?h13 ?_
      case h13 => intro W hW; go_simp; with_reducible rfl
      try simp only [Act.put, List.setIfInBounds_toArray, List.set_cons_zero, List.set_cons_succ]
      refine seg_read ?v14 (by rfl) (by rfl) ?h14 ?_
      case h14 => intro W hW; have hcv := byt_string hW.2; rw [show (⟨e.1.toArray⟩ : ByteArray) = SE from HSS.out.2.symm] at hcv; go_simp; with_reducible rfl
      try simp only [Act.put, List.setIfInBounds_toArray, List.set_cons_zero, List.set_cons_succ]
      refine seg_read ?v15 (by rfl) (by rfl) ?h15 ?_
      case h15 => intro W hW; have hlw := hls; go_simp; with_reducible rfl
      try simp only [Act.put, List.setIfInBounds_toArray, List.set_cons_zero, List.set_cons_succ]
      refine seg_read ?v16 (by rfl) (by rfl) ?h16 ?_
      case h16 => intro W hW; go_simp; with_reducible rfl
      try simp only [Act.put, List.setIfInBounds_toArray, List.set_cons_zero, List.set_cons_succ]
      refine seg_nil ?_
      cases Z
      ·have hjn : j ≤ n := Nat.le_of_lt HJ.out.1
       have hstop : ∀ x, t[j]? = some x → ¬ x.1 < e.1 := fun x hx => by
        rw [HJ.out.2.2.1] at hx
        obtain rfl := Option.some.inj hx
        exact of_decide_eq_false HJ.out.2.2.2.1.symm
       have hbe := HJ.out.2.1
       have hes := HJ.out.2.2.2.2.1
       clear hls hjj hC
       have hput := cut_sv HH.out.2.2.2.1 (by rw [HH.out.2.1]; exact hjn) hbe hstop HB.out.2 e.2
       have hT : addT t e.1 e.2 = t.take j ++ [e] ++ t.drop j := by unfold addT; rw [HB.out.1, if_pos rfl, hput]
       have hw5 : Es (w2.drewN m).drew S (some ⟨b, off, none⟩) n c t := hes
       obtain ⟨Ad, hAd⟩ : ∃ Ad : Option Addr, Ad = (some ⟨b, off, none⟩) := ⟨_, rfl⟩
       rw [← hAd] at hw5 ⊢
       clear hAd hes
       have hq5 : (w2.drewN m).drew.heap[q]? = some (.cells ES 41 (0, 0)) := H2.out.1
       have hb5 : Below w.heap.size w (w2.drewN m).drew := by have h := H2.out.2.1; rw [HQ.out] at h; exact below_drew (below_drewN h m)
       generalize (w2.drewN m).drew = w5 at hw5 hq5 hb5 ⊢
       obtain ⟨I0, hI0, hIz, hIs, hIb⟩ := info_parts e_info3
       have hn5 := HH.out.2.2.1
       obtain ⟨A1, c1, w7, A2, c2, w8, A3, c3, w9, r1, r2, r3, o3, b1, b2, b3⟩ := gins (W := w5) (k := j) (pc := eC e) Try.underlying26 hI0 hIz hIs hIb (by unfold zEC eC zE u8s; rfl) (by decide) (by rw [eCs_len hw5.each, hw5.len]) hw5.rowAt hw5.cap hjn hn5 (eCs_one _) (eC_len HH.out.2.2.2.2.1 HH.out.2.2.2.2.2) (fun u hu => List.all_eq_true.1 (eC_one e) u hu) (by decide) 26
       rw [eCs_parts hw5.each e (by rw [hw5.len]; exact hjn), ← hT] at o3
       have hlen : (addT t e.1 e.2).length = n + 1 := by rw [hT, List.length_append, List.length_append, List.length_take, List.length_drop, List.length_singleton, HH.out.2.1]; omega
       have HF : Hid (w9.ownsRow w5.heap.size 41 65 (.slice A3 (n + 1) c3) (n + 1) (eCs (addT t e.1 e.2)) ∧ Below w.heap.size w w9 ∧ (addT t e.1 e.2).length = n + 1 ∧ ∀ y ∈ addT t e.1 e.2, y.1.length = 32 ∧ y.2.1.length = 32) := Lib.hid ⟨o3, hb5.trans (b3.mono hb5.size), hlen, fun y hy => by
        rw [hT] at hy
        simp only [List.mem_append, List.mem_singleton] at hy
        rcases hy with (hy | hy) | hy
        ·exact hw5.each y (List.mem_of_mem_take hy)
        ·rw [hy]; exact HH.out.2.2.2.2
        ·exact hw5.each y (List.mem_of_mem_drop hy)⟩
       have HQ6 : Hid (w7.heap[q]? = some (.cells ES 41 (0, 0))) := Lib.hid ((b1.block q (lt_of_cells hq5)).trans hq5)
       have hlit := run_e_lit w7 ES HES.out.1 HH.out.2.2.2.2.1 HH.out.2.2.2.2.2
       rw [← HES.out.1] at r2
       have hto := run_gto (ts := 26) Try.underlying26 e_sizeOf Ad n c j (by have := hw5.cap; omega) w5
       have hfr := run_gfrom (ts := 26) Try.underlying26 e_sizeOf Ad n c j hjn w8
       obtain ⟨AC, hAC⟩ : ∃ AC, AC = cutG 65 Ad c j := ⟨_, rfl⟩
       obtain ⟨NJ, hNJ⟩ : ∃ NJ, NJ = n - j := ⟨_, rfl⟩
       obtain ⟨CJ, hCJ⟩ : ∃ CJ, CJ = c - j := ⟨_, rfl⟩
       rw [← hAC, ← hNJ, ← hCJ] at hfr r3
       have HR := Lib.hid (And.intro r1 (And.intro r2 r3))
       clear hput hT hAC hNJ hCJ r1 r2 r3 o3 b1 b2 b3 hb5 hq5 hw5 hlen hI0 hIz hIs hIb hn5 hbe hstop
       go_wp2_with (first
        | (refine wpList_load_row (by rfl) 41 (.tmp 3) (by rfl) q (by rfl) 41 ES (0, 0) _ HQ6.out Try.underlying41 (by rfl) (by rw [HES.out.2.1]; exact e_size) ?_)
        | (refine wpList_lit1 (by rfl) 26 (.tmp 48) (by rfl) (by rfl) hlit ?_)
        | (at_builtin; refine wpList_app (by rfl) (.tmp 42) (.tmp 45) 26 (by rfl) (by rfl) (by rfl) HR.out.1 ?_)
        | (at_builtin; refine wpList_app (by rfl) (.tmp 47) (.tmp 49) 26 (by rfl) (by rfl) (by rfl) HR.out.2.1 ?_)
        | (at_builtin; refine wpList_app (by rfl) (.tmp 51) (.tmp 54) 26 (by rfl) (by rfl) (by rfl) HR.out.2.2 ?_))
       go_ret2
       rw [HB.out.1, HF.out.2.2.1]
       refine ⟨A3, c3, rfl, ?_, HF.out.2.1⟩
       exact (Es.of_own HF.out.1 HF.out.2.2.2 HF.out.2.2.1).mono fun _ _ _ => trivial
      ·go_wp2
       exact ⟨⟨j + 1, m + 1, by have := HJ.out.1; omega, by simp, by simp [World.drewN], fun x hx => by
        rw [ddtake_snoc' HJ.out.2.2.1] at hx
        rcases List.mem_append.1 hx with hx | hx
        ·exact HJ.out.2.1 x hx
        ·simp only [List.mem_singleton] at hx
         rw [hx]
         exact of_decide_eq_true HJ.out.2.2.2.1.symm⟩, by have := HJ.out.1; simp only [intOf]; omega⟩
     ·obtain rfl : j = n := by omega
      have hlt' : ¬ (j : Int) < (j : Int) := by omega
      have hjn : j ≤ j := Nat.le_refl j
      have hstop : ∀ x, t[j]? = some x → ¬ x.1 < e.1 := fun x hx => by
       have := (List.getElem?_eq_some_iff.1 hx).1
       have := HH.out.2.1
       omega
      clear hj hlt
      go_wp2
      refine wp_region_plan (fun _ : World => True) [] [0, 1, 2, 3, 4, 5, 6, 7, 8, 9, 10, 11, 12, 13, 14, 15] (by kernel_rfl) (by kernel_rfl) (fun _ _ d _ _ h => by cases d <;> exact h) trivial ?_
      refine plan_last ?_
      refine seg_read ?v17 (by rfl) (by rfl) ?h17 ?_
      case h17 => intro W hW; go_simp; with_reducible rfl
      try simp only [Act.put, List.setIfInBounds_toArray, List.set_cons_zero, List.set_cons_succ]
      refine seg_read ?v18 (by rfl) (by rfl) ?h18 ?_
      case h18 => intro W hW; go_simp; with_reducible rfl
      try simp only [Act.put, List.setIfInBounds_toArray, List.set_cons_zero, List.set_cons_succ]
      refine seg_read ?v19 (by rfl) (by rfl) ?h19 ?_
      case h19 => intro W hW; go_simp; with_reducible rfl
      try simp only [Act.put, List.setIfInBounds_toArray, List.set_cons_zero, List.set_cons_succ]
      refine seg_read ?v20 (by rfl) (by rfl) ?h20 ?_
      case h20 => intro W hW; go_simp; with_reducible rfl
      try simp only [Act.put, List.setIfInBounds_toArray, List.set_cons_zero, List.set_cons_succ]
      refine seg_read ?v21 (by rfl) (by rfl) ?h21 ?_
      case h21 => intro W hW; go_simp; with_reducible rfl
      try simp only [Act.put, List.setIfInBounds_toArray, List.set_cons_zero, List.set_cons_succ]
      refine seg_off (by rfl) (by rfl) ?_
      try simp only [Act.put, List.setIfInBounds_toArray, List.set_cons_zero, List.set_cons_succ]
      refine seg_off (by rfl) (by rfl) ?_
      try simp only [Act.put, List.setIfInBounds_toArray, List.set_cons_zero, List.set_cons_succ]
      refine seg_off (by rfl) (by rfl) ?_
      try simp only [Act.put, List.setIfInBounds_toArray, List.set_cons_zero, List.set_cons_succ]
      refine seg_off (by rfl) (by rfl) ?_
      try simp only [Act.put, List.setIfInBounds_toArray, List.set_cons_zero, List.set_cons_succ]
      refine seg_off (by rfl) (by rfl) ?_
      try simp only [Act.put, List.setIfInBounds_toArray, List.set_cons_zero, List.set_cons_succ]
      refine seg_off (by rfl) (by rfl) ?_
      try simp only [Act.put, List.setIfInBounds_toArray, List.set_cons_zero, List.set_cons_succ]
      refine seg_off (by rfl) (by rfl) ?_
      try simp only [Act.put, List.setIfInBounds_toArray, List.set_cons_zero, List.set_cons_succ]
      refine seg_off (by rfl) (by rfl) ?_
      try simp only [Act.put, List.setIfInBounds_toArray, List.set_cons_zero, List.set_cons_succ]
      refine seg_off (by rfl) (by rfl) ?_
      try simp only [Act.put, List.setIfInBounds_toArray, List.set_cons_zero, List.set_cons_succ]
      refine seg_off (by rfl) (by rfl) ?_
      try simp only [Act.put, List.setIfInBounds_toArray, List.set_cons_zero, List.set_cons_succ]
      refine seg_read ?v22 (by rfl) (by rfl) ?h22 ?_
      case h22 => intro W hW; go_simp; with_reducible rfl
      try simp only [Act.put, List.setIfInBounds_toArray, List.set_cons_zero, List.set_cons_succ]
      refine seg_nil ?_
      clear hbx
      have hput := cut_sv HH.out.2.2.2.1 (by rw [HH.out.2.1]; exact hjn) hbe hstop HB.out.2 e.2
      have hT : addT t e.1 e.2 = t.take j ++ [e] ++ t.drop j := by unfold addT; rw [HB.out.1, if_pos rfl, hput]
      have hw5 : Es (w2.drewN m).drew S A j c t := hes
      obtain ⟨Ad, hAd⟩ : ∃ Ad : Option Addr, Ad = A := ⟨_, rfl⟩
      rw [← hAd] at hw5 ⊢
      clear hAd hes
      have hq5 : (w2.drewN m).drew.heap[q]? = some (.cells ES 41 (0, 0)) := H2.out.1
      have hb5 : Below w.heap.size w (w2.drewN m).drew := by have h := H2.out.2.1; rw [HQ.out] at h; exact below_drew (below_drewN h m)
      generalize (w2.drewN m).drew = w5 at hw5 hq5 hb5 ⊢
      obtain ⟨I0, hI0, hIz, hIs, hIb⟩ := info_parts e_info3
      have hn5 := HH.out.2.2.1
      obtain ⟨A1, c1, w7, A2, c2, w8, A3, c3, w9, r1, r2, r3, o3, b1, b2, b3⟩ := gins (W := w5) (k := j) (pc := eC e) Try.underlying26 hI0 hIz hIs hIb (by unfold zEC eC zE u8s; rfl) (by decide) (by rw [eCs_len hw5.each, hw5.len]) hw5.rowAt hw5.cap hjn hn5 (eCs_one _) (eC_len HH.out.2.2.2.2.1 HH.out.2.2.2.2.2) (fun u hu => List.all_eq_true.1 (eC_one e) u hu) (by decide) 26
      rw [eCs_parts hw5.each e (by rw [hw5.len]; exact hjn), ← hT] at o3
      have hlen : (addT t e.1 e.2).length = j + 1 := by rw [hT, List.length_append, List.length_append, List.length_take, List.length_drop, List.length_singleton, HH.out.2.1]; omega
      have HF : Hid (w9.ownsRow w5.heap.size 41 65 (.slice A3 (j + 1) c3) (j + 1) (eCs (addT t e.1 e.2)) ∧ Below w.heap.size w w9 ∧ (addT t e.1 e.2).length = j + 1 ∧ ∀ y ∈ addT t e.1 e.2, y.1.length = 32 ∧ y.2.1.length = 32) := Lib.hid ⟨o3, hb5.trans (b3.mono hb5.size), hlen, fun y hy => by
       rw [hT] at hy
       simp only [List.mem_append, List.mem_singleton] at hy
       rcases hy with (hy | hy) | hy
       ·exact hw5.each y (List.mem_of_mem_take hy)
       ·rw [hy]; exact HH.out.2.2.2.2
       ·exact hw5.each y (List.mem_of_mem_drop hy)⟩
      have HQ6 : Hid (w7.heap[q]? = some (.cells ES 41 (0, 0))) := Lib.hid ((b1.block q (lt_of_cells hq5)).trans hq5)
      have hlit := run_e_lit w7 ES HES.out.1 HH.out.2.2.2.2.1 HH.out.2.2.2.2.2
      rw [← HES.out.1] at r2
      have hto := run_gto (ts := 26) Try.underlying26 e_sizeOf Ad j c j (by have := hw5.cap; omega) w5
      have hfr := run_gfrom (ts := 26) Try.underlying26 e_sizeOf Ad j c j hjn w8
      obtain ⟨AC, hAC⟩ : ∃ AC, AC = cutG 65 Ad c j := ⟨_, rfl⟩
      obtain ⟨NJ, hNJ⟩ : ∃ NJ, NJ = j - j := ⟨_, rfl⟩
      obtain ⟨CJ, hCJ⟩ : ∃ CJ, CJ = c - j := ⟨_, rfl⟩
      rw [← hAC, ← hNJ, ← hCJ] at hfr r3
      have HR := Lib.hid (And.intro r1 (And.intro r2 r3))
      clear hput hT hAC hNJ hCJ r1 r2 r3 o3 b1 b2 b3 hb5 hq5 hw5 hlen hI0 hIz hIs hIb hn5 hbe hstop
      go_wp2_with (first
       | (refine wpList_load_row (by rfl) 41 (.tmp 3) (by rfl) q (by rfl) 41 ES (0, 0) _ HQ6.out Try.underlying41 (by rfl) (by rw [HES.out.2.1]; exact e_size) ?_)
       | (refine wpList_lit1 (by rfl) 26 (.tmp 48) (by rfl) (by rfl) hlit ?_)
       | (at_builtin; refine wpList_app (by rfl) (.tmp 42) (.tmp 45) 26 (by rfl) (by rfl) (by rfl) HR.out.1 ?_)
       | (at_builtin; refine wpList_app (by rfl) (.tmp 47) (.tmp 49) 26 (by rfl) (by rfl) (by rfl) HR.out.2.1 ?_)
       | (at_builtin; refine wpList_app (by rfl) (.tmp 51) (.tmp 54) 26 (by rfl) (by rfl) (by rfl) HR.out.2.2 ?_))
      go_ret2
      rw [HB.out.1, HF.out.2.2.1]
      refine ⟨A3, c3, rfl, ?_, HF.out.2.1⟩
      exact (Es.of_own HF.out.1 HF.out.2.2.2 HF.out.2.2.1).mono fun _ _ _ => trivial
 ·have hB : addB t e.1 e.2 = false := by
    have h2 := HX.out.2
    unfold addB mayN
    rw [hZ]
    simp
  have hT : addT t e.1 e.2 = t := by unfold addT; rw [hB]; rfl
  have HB := Lib.hid (And.intro hB hT)
  clear hB hT
  rw [hZ] at hfd
  clear hZ
  go_enter Try.func14, Try.ntmps14
  go_wp2_with (first
   | (refine wpList_load_at (by rfl) 31 (.tmp 9) (by rfl) ⟨w.heap.size, 0, none⟩ (by rfl) KS _ HC0.out Try.underlying31 (by rfl) (by rw [HES.out.2.2.1]; exact id_info) ?_)
   | (go_at_call 16; refine hfd.mono ?_; clear hfd; rintro _ w2 ⟨x, rfl, hx, hb2⟩
      have H2 : Hid (w2.heap[w.heap.size]? = some (.cells ES 41 (0, 0)) ∧ Below w.heap.size w w2 ∧ w.heap.size < w2.heap.size) := Lib.hid ⟨(hb2.block _ (lt_of_cells H1.out.2)).trans H1.out.2, H1.out.1.trans (hb2.mono H1.out.1.size), Nat.lt_of_lt_of_le (lt_of_cells H1.out.2) hb2.size⟩
      clear hb2
      have hcx : w2.cell? ⟨w.heap.size, 64, none⟩ = some (.int .i64 X) := (cell_of_cells H2.out.1 64).trans HES.out.2.2.2.2
      have hx0 : 0 ≤ x := by simpa using hx
      clear hx))
  go_ret2
  rw [HB.out.1, HB.out.2, HH.out.2.1]
  exact ⟨A, c, rfl, (HH.out.1.below H2.out.2.1).mono fun _ _ _ => trivial, H2.out.2.1⟩
end Go.Proofs.Ytmmibldchfmleaa

namespace Go.Proofs.Ytmmibldchfmleaa
open Codec
section
variable {V : Type} {t : Tv V} {k : List UInt8}
theorem cut_parts (hs : Sv t) {j : Nat} (h1 : ∀ e ∈ t.take j, e.1 < k) (h2 : ∀ e, t[j]? = some e → k < e.1) : t.filter (fun p => decide (p.1 < k)) = t.take j ∧ t.filter (fun p => decide (k < p.1)) = t.drop j ∧ getV t k = none := by
 have hd : ∀ e ∈ t.drop j, k < e.1 := by
  rcases hq : t.drop j with _ | ⟨x, u⟩
  ·intro e he; simp at he
  ·have hx : t[j]? = some x := by rw [← List.head?_drop, hq]; rfl
   have hxk : k < x.1 := h2 x hx
   have hp : (x :: u).Pairwise fun a b => a.1 < b.1 := by rw [← hq]; exact List.Pairwise.drop hs
   intro e he
   rcases List.mem_cons.1 he with rfl | he
   ·exact hxk
   ·exact klt_tr hxk ((List.pairwise_cons.1 hp).1 e he)
 refine ⟨?_, ?_, ?_⟩
 ·conv => lhs; rw [← List.take_append_drop j t]
  rw [List.filter_append, List.filter_eq_self.2 (fun e he => by simpa using h1 e he), List.filter_eq_nil_iff.2 (fun e he => by simpa using klt_as (hd e he)), List.append_nil]
 ·conv => lhs; rw [← List.take_append_drop j t]
  rw [List.filter_append, List.filter_eq_nil_iff.2 (fun e he => by simpa using klt_as (h1 e he)), List.filter_eq_self.2 (fun e he => by simpa using hd e he), List.nil_append]
 ·refine getV_none fun p hp => ?_
  rw [← List.take_append_drop j t] at hp
  rcases List.mem_append.1 hp with hp | hp
  ·exact klt_ne (h1 p hp)
  ·exact fun e => klt_ne (hd p hp) e.symm
theorem put_new (hs : Sv t) {j : Nat} (h1 : ∀ e ∈ t.take j, e.1 < k) (h2 : ∀ e, t[j]? = some e → k < e.1) (v : V) : putV t k v = t.take j ++ [(k, v)] ++ t.drop j := by
 obtain ⟨e1, e2, _⟩ := cut_parts hs h1 h2
 unfold putV
 rw [e1, e2]
theorem put_old (hs : Sv t) {j : Nat} {x : List UInt8 × V} (hx : t[j]? = some x) (hk : x.1 = k) (v : V) : putV t k v = t.take j ++ [(k, v)] ++ t.drop (j + 1) ∧ getV t k = some x.2 := by
 have hlt : j < t.length := (List.getElem?_eq_some_iff.1 hx).1
 have hg : t[j] = x := (List.getElem?_eq_some_iff.1 hx).2
 have hsp : t = t.take j ++ x :: t.drop (j + 1) := by
  rw [← hg]
  exact (by rw [List.getElem_cons_drop hlt, List.take_append_drop] : t = t.take j ++ t[j] :: t.drop (j + 1))
 have hp : (t.take j ++ x :: t.drop (j + 1)).Pairwise fun a b => a.1 < b.1 := by rw [← hsp]; exact hs
 obtain ⟨_, hp2, hp3⟩ := List.pairwise_append.1 hp
 have ha : ∀ e ∈ t.take j, e.1 < k := fun e he => by rw [← hk]; exact hp3 e he x (by simp)
 have hb : ∀ e ∈ t.drop (j + 1), k < e.1 := fun e he => by rw [← hk]; exact (List.pairwise_cons.1 hp2).1 e he
 refine ⟨?_, ?_⟩
 ·unfold putV
  have e1 : t.filter (fun p => decide (p.1 < k)) = t.take j := by
   conv => lhs; rw [hsp]
   rw [List.filter_append, List.filter_eq_self.2 (fun e he => by simpa using ha e he), List.filter_eq_nil_iff.2 (fun e he => by
    rcases List.mem_cons.1 he with rfl | he
    ·rw [hk]; simp
    ·simpa using klt_as (hb e he)), List.append_nil]
  have e2 : t.filter (fun p => decide (k < p.1)) = t.drop (j + 1) := by
   conv => lhs; rw [hsp]
   rw [List.filter_append, List.filter_eq_nil_iff.2 (fun e he => by simpa using klt_as (ha e he)), List.filter_cons_of_neg (by rw [hk]; simp), List.filter_eq_self.2 (fun e he => by simpa using hb e he), List.nil_append]
  rw [e1, e2]
 ·rw [← hk]
  exact getV_mem hs (List.mem_of_getElem? hx)
end
theorem packT_snoc (t : Tv Pl) (e : List UInt8 × Pl) : packT (t ++ [e]) = incV (packT t) e.2.1 := by simp [packT, List.foldl_append]
theorem inc_new {h : Tv Nat} {pk : List UInt8} (hs : Sv h) {j : Nat} (h1 : ∀ e ∈ h.take j, e.1 < pk) (h2 : ∀ e, h[j]? = some e → pk < e.1) : incV h pk = h.take j ++ [(pk, 1)] ++ h.drop j := by
 obtain ⟨_, _, hg⟩ := cut_parts hs h1 h2
 unfold incV
 rw [hg, put_new hs h1 h2]
 rfl
theorem inc_old {h : Tv Nat} {pk : List UInt8} (hs : Sv h) {j : Nat} {x : List UInt8 × Nat} (hx : h[j]? = some x) (hk : x.1 = pk) : incV h pk = h.take j ++ [(pk, x.2 + 1)] ++ h.drop (j + 1) := by
 obtain ⟨_, hg⟩ := put_old hs hx hk x.2
 unfold incV
 rw [hg]
 exact (put_old hs hx hk _).1
theorem inc_old_keys {h : Tv Nat} {pk : List UInt8} (hs : Sv h) {j : Nat} {x : List UInt8 × Nat} (hx : h[j]? = some x) (hk : x.1 = pk) : (incV h pk).map (·.1) = h.map (·.1) ∧ (incV h pk).map (fun p => (p.2 : Int)) = (h.map (fun p => (p.2 : Int))).set j ((x.2 + 1 : Nat) : Int) ∧ (incV h pk).length = h.length := by
 rw [inc_old hs hx hk]
 have hlt : j < h.length := (List.getElem?_eq_some_iff.1 hx).1
 have hg : h[j] = x := (List.getElem?_eq_some_iff.1 hx).2
 have hsp : h = h.take j ++ x :: h.drop (j + 1) := by
  rw [← hg]
  exact (by rw [List.getElem_cons_drop hlt, List.take_append_drop] : h = h.take j ++ h[j] :: h.drop (j + 1))
 have hl : (h.take j).length = j := by rw [List.length_take]; omega
 refine ⟨?_, ?_, ?_⟩
 ·conv => rhs; rw [hsp]
  simp [hk]
 ·conv => rhs; rw [hsp]
  simp only [List.map_append, List.map_cons, List.map_nil]
  rw [List.set_append_right _ _ (by rw [List.length_map, hl]; exact Nat.le_refl _), List.length_map, hl, Nat.sub_self]
  simp
 ·conv => rhs; rw [hsp]
  simp
theorem packT_srt (t : Tv Pl) : Sv (packT t) := (packT_cnt t).1
end Go.Proofs.Ytmmibldchfmleaa
