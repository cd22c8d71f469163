/-
  Dedup, the reference: a list of objects in memory.
  Dedup, the reference: Find.
  The string of a row of bytes.
  Dedup, the reference: Put.
  Dedup, the reference: a list of objects that grows.
  Dedup, the reference: Drop.
  Dedup, the reference: parts of a list of objects, and one appended to another.
-/
import Derived.Test.YtmmibldchfmleaaPk11
import Derived.Test.YtmmibldchfmleaaPk10
import Derived.Test.YtmmibldchfmleaaPk09
import Derived.Test.YtmmibldchfmleaaPk01
import Derived.Test.YtmmibldchfmleaaPk06
import Derived.Test.YtmmibldchfmleaaPk03
import Derived.Great.BuildSlice
import Derived.Maps.AppendAt
/-! Dedup, the reference: a list of objects in memory. -/
namespace Go.Proofs.Ytmmibldchfmleaa
open Go.RowKit Go.Maps Codec

/-- An object's cells. -/
def eC (e : List UInt8 × Pl) : List Value := u8s e.1 ++ (u8s e.2.1 ++ [.int .i64 e.2.2])
theorem eC_len {e : List UInt8 × Pl} (h1 : e.1.length = 32) (h2 : e.2.1.length = 32) : (eC e).length = 65 := by simp [eC, u8s, h1, h2]
/-- THE SLICE VALUE '.slice A n c' READS AS t. -/
structure Es (w : World) (S : Nat → Prop) (A : Option Addr) (n c : Nat) (t : Tv Pl) : Prop where
  len : t.length = n
  each : ∀ e ∈ t, e.1.length = 32 ∧ e.2.1.length = 32
  cap : n ≤ c
  max : c ≤ maxLen
  row : 0 < n → ∃ b off, A = some ⟨b, off, none⟩ ∧ S b ∧ b < w.heap.size ∧ ∀ (i : Nat) e, t[i]? = some e → ∀ j v, (eC e)[j]? = some v → w.cell? ⟨b, off + (i * 65 + j), none⟩ = some v
section
variable {w w' : World} {S T : Nat → Prop} {A : Option Addr} {n c : Nat} {t : Tv Pl}
theorem Es.below (h : Es w S A n c t) (hb : Below w.heap.size w w') : Es w' S A n c t :=
  ⟨h.len, h.each, h.cap, h.max, fun h0 => by
    obtain ⟨b, off, hA, hS, hlt, hc⟩ := h.row h0
    exact ⟨b, off, hA, hS, Nat.lt_of_lt_of_le hlt hb.size, fun i e he j v hv => (hb.cell (p := ⟨_, _, none⟩) hlt).trans (hc i e he j v hv)⟩⟩
theorem Es.turned (h : Es w S A n c t) (ht : Turned T w w') (hd : ∀ b, b < w.heap.size → S b → ¬ T b) : Es w' S A n c t :=
  ⟨h.len, h.each, h.cap, h.max, fun h0 => by
    obtain ⟨b, off, hA, hS, hlt, hc⟩ := h.row h0
    exact ⟨b, off, hA, hS, Nat.lt_of_lt_of_le hlt ht.size, fun i e he j v hv => (World.cell?_of_block (w := w) (a := ⟨b, off + (i * 65 + j), none⟩) (ht.block b hlt (hd b hlt hS))).trans (hc i e he j v hv)⟩⟩
theorem Es.mono (h : Es w S A n c t) (hT : ∀ b, b < w.heap.size → S b → T b) : Es w T A n c t :=
  ⟨h.len, h.each, h.cap, h.max, fun h0 => by
    obtain ⟨b, off, hA, hS, hlt, hc⟩ := h.row h0
    exact ⟨b, off, hA, hT b hlt hS, hlt, hc⟩⟩
theorem Es.nil (w : World) (S : Nat → Prop) (A : Option Addr) (c : Nat) (hc : c ≤ maxLen) : Es w S A 0 c [] := ⟨rfl, by simp, Nat.zero_le _, hc, fun h => absurd h (by omega)⟩
theorem Es.at_ (h : Es w S A n c t) {i : Nat} (hi : i < n) : ∃ b off e, A = some ⟨b, off, none⟩ ∧ b < w.heap.size ∧ t[i]? = some e ∧ e.1.length = 32 ∧ e.2.1.length = 32 ∧
    (∀ u v, (row8 e.1)[u]? = some v → w.cell? ((⟨b, off + i * 65, none⟩ : Addr).add u) = some v) ∧ (∀ u v, (row8 e.2.1)[u]? = some v → w.cell? ((⟨b, off + i * 65 + 32, none⟩ : Addr).add u) = some v) ∧ w.cell? ⟨b, off + i * 65 + 64, none⟩ = some (.int .i64 e.2.2) := by
  obtain ⟨b, off, hA, _, hlt, hc⟩ := h.row (by omega)
  have hil : i < t.length := by rw [h.len]; exact hi
  obtain ⟨h1, h2⟩ := h.each _ (List.getElem_mem hil)
  have he : t[i]? = some t[i] := List.getElem?_eq_getElem hil
  have hu1 : (u8s t[i].1).length = 32 := by simp [u8s, h1]
  have hu2 : (u8s t[i].2.1).length = 32 := by simp [u8s, h2]
  refine ⟨b, off, t[i], hA, hlt, he, h1, h2, fun u v hu => ?_, fun u v hu => ?_, ?_⟩
  · rw [row8, List.getElem?_toArray] at hu
    have hl : u < 32 := by rw [← hu1]; exact (List.getElem?_eq_some_iff.1 hu).1
    rw [add_plain, Nat.add_assoc]
    exact hc i _ he u v (by rw [eC, List.getElem?_append_left (by omega)]; exact hu)
  · rw [row8, List.getElem?_toArray] at hu
    have hl : u < 32 := by rw [← hu2]; exact (List.getElem?_eq_some_iff.1 hu).1
    rw [add_plain, Nat.add_assoc, Nat.add_assoc]
    exact hc i _ he (32 + u) v (by rw [eC, List.getElem?_append_right (by omega), hu1, Nat.add_sub_cancel_left, List.getElem?_append_left (by omega)]; exact hu)
  · rw [Nat.add_assoc]
    exact hc i _ he 64 _ (by rw [eC, List.getElem?_append_right (by omega), hu1, List.getElem?_append_right (by omega), hu2]; rfl)
theorem ddtake_snoc' {α : Type} {l : List α} {j : Nat} {s : α} (h : l[j]? = some s) : l.take (j + 1) = l.take j ++ [s] := by
  rw [List.take_add_one, h]; rfl
end
end Go.Proofs.Ytmmibldchfmleaa

/-! Dedup, the reference: Find. -/
namespace Go.Proofs.Ytmmibldchfmleaa
open Go.RowKit Go.Maps Codec

set_option maxHeartbeats 4000000 in
set_option maxRecDepth 100000 in
theorem drfind_any {w : World} {S : Nat → Prop} {A : Option Addr} {n c : Nat} {t : Tv Pl} (h : Es w S A n c t) (hn : n ≤ 1000000) {k : List UInt8} (hk : k.length = 32) :
    Calls Try.prog 16 #[.slice A n c, .agg (row8 k)] w fun e w' => ∃ x : Int, e = .returned (.int .i64 x) ∧ decide (0 ≤ x) = (getV t k).isSome ∧ Below w.heap.size w w' := by
  obtain ⟨KS, hKS⟩ : ∃ KS, KS = row8 k := ⟨_, rfl⟩
  have hb1 : Below w.heap.size w (w.alloc (.cells KS 31)) := (Below.refl _ _).alloc (Nat.le_refl _) _
  have hr1 := heap_alloc_new w (.cells KS 31)
  rw [← hKS]
  have HK : Hid (KS = row8 k ∧ KS.size = 32 ∧ k.length = 32) := Lib.hid ⟨hKS, by rw [hKS, row8_size, hk], hk⟩
  have HH := Lib.hid (And.intro h (And.intro h.len hn))
  have H1 := Lib.hid (And.intro hb1 hr1)
  clear h hn hk hb1 hr1 hKS
  go_enter Try.func16, Try.ntmps16
  go_upto_region 2 with fail
  generalize w.alloc (.cells KS 31) = w1 at H1 ⊢
  generalize hq : w.heap.size = q at H1 ⊢
  have HQ := Lib.hid hq
  clear hq
  go_loopw [5] (fun i wr => ∃ j m : Nat, j ≤ n ∧ i = .int .i64 (j : Int) ∧ wr = w1.drewN m ∧ ∀ e ∈ t.take j, e.1 ≠ k) (fun i _ => n - (intOf i).toNat)
  case atStart => exact ⟨0, 0, Nat.zero_le _, rfl, rfl, by simp⟩
  case round =>
    obtain ⟨j, m, hj, rfl, rfl, hno⟩ := hrel
    by_cases hlt : j < n
    · have hlt' : (j : Int) < (n : Int) := by omega
      obtain ⟨b, off, e, rfl, hbl, he, h1, _, hc, _, _⟩ := HH.out.1.at_ hlt
      obtain ⟨ES, hES⟩ : ∃ ES, ES = row8 e.1 := ⟨_, rfl⟩
      rw [← hES] at hc
      have HE : Hid (ES.size = 32) := Lib.hid (by rw [hES, row8_size, h1])
      obtain ⟨Z, hZ⟩ : ∃ Z, Z = decide (e.1 = k) := ⟨_, rfl⟩
      have hqe : ∀ W, (Op.equalIn 10000 31 (.agg ES) (.agg KS)).run Try.prog W = .ok Z W := fun W => by rw [hES, HK.out.1, hZ]; exact dd_ideq _ _ h1 HK.out.2.2 W
      have hC : (fun W : World => (∀ u v, ES[u]? = some v → W.cell? ((⟨b, off + j * 65, none⟩ : Addr).add u) = some v) ∧ W.heap[q]? = some (.cells KS 31 (0, 0))) (w1.drewN m).drew := ⟨fun u v hu => by
          have h := hc u v hu
          rw [add_plain] at h ⊢
          exact ((H1.out.1.cell (p := ⟨b, _, none⟩) (by rw [HQ.out] at hbl; exact hbl)).trans h), H1.out.2⟩
      have hjj := IntWalk.i64_in ((j : Int) + 1) (by have := HH.out.2.2; omega)
      have HJ := Lib.hid (And.intro hlt (And.intro hno (And.intro he hZ)))
      clear hZ hES hc he h1 hbl hno hj hlt
      go_wp2
      refine wp_region_plan (fun W : World => (∀ u v, ES[u]? = some v → W.cell? ((⟨b, off + j * 65, none⟩ : Addr).add u) = some v) ∧ W.heap[q]? = some (.cells KS 31 (0, 0))) [] [0, 1, 2, 3, 4, 5, 6] (by kernel_rfl) (by kernel_rfl) (fun _ _ d _ _ h => by cases d <;> exact h) hC ?_
      refine plan_last ?_
      refine seg_read ?v1 (by rfl) (by rfl) ?h1 ?_
      case h1 => intro W hW; go_simp; with_reducible rfl
      try simp only [Act.put, List.setIfInBounds_toArray, List.set_cons_zero, List.set_cons_succ]
      refine seg_read ?v2 (by rfl) (by rfl) ?h2 ?_
      case h2 => intro W hW; go_simp; with_reducible rfl
      try simp only [Act.put, List.setIfInBounds_toArray, List.set_cons_zero, List.set_cons_succ]
      refine seg_read ?v3 (by rfl) (by rfl) ?h3 ?_
      case h3 => intro W hW; go_simp; with_reducible rfl
      try simp only [Act.put, List.setIfInBounds_toArray, List.set_cons_zero, List.set_cons_succ]
      refine seg_read ?v4 (by rfl) (by rfl) ?h4 ?_
      case h4 => intro W hW; go_simp; with_reducible rfl
      try simp only [Act.put, List.setIfInBounds_toArray, List.set_cons_zero, List.set_cons_succ]
      refine seg_read (.agg ES) (by rfl) (by rfl) (fun W hW => exec_load_ad 31 (.tmp 15) (by rfl) ⟨b, off + j * 65, none⟩ (by rfl) ES hW.1 Try.underlying31 (by rfl) (by rw [HE.out]; exact id_info)) ?_
      try simp only [Act.put, List.setIfInBounds_toArray, List.set_cons_zero, List.set_cons_succ]
      refine seg_read (.agg KS) (by rfl) (by rfl) (fun W hW => exec_load_st 31 (.tmp 3) (by rfl) q (by rfl) KS (0, 0) hW.2 _ Try.underlying31 (by rfl) (by rw [HK.out.2.1]; exact id_info)) ?_
      try simp only [Act.put, List.setIfInBounds_toArray, List.set_cons_zero, List.set_cons_succ]
      refine seg_read ?v5 (by rfl) (by rfl) ?h5 ?_
      case h5 => intro W hW; have hqw := hqe W; go_simp; with_reducible rfl
      try simp only [Act.put, List.setIfInBounds_toArray, List.set_cons_zero, List.set_cons_succ]
      refine seg_nil ?_
      cases Z
      · go_wp2
        exact ⟨⟨j + 1, m + 1, by have := HJ.out.1; omega, by simp, by simp [World.drewN], fun x hx => by
          rw [ddtake_snoc' HJ.out.2.2.1] at hx
          rcases List.mem_append.1 hx with hx | hx
          · exact HJ.out.2.1 x hx
          · simp only [List.mem_singleton] at hx
            rw [hx]
            exact of_decide_eq_false HJ.out.2.2.2.symm⟩, by have := HJ.out.1; simp only [intOf]; omega⟩
      · go_wp2
        go_ret
        refine ⟨j, rfl, ?_, by have h := H1.out.1; rw [← HQ.out] at h; exact below_drew (below_drewN h m)⟩
        have h1 : e.1 = k := of_decide_eq_true HJ.out.2.2.2.symm
        have h2 : (getV t k).isSome = true := getV_isSome.2 (List.mem_map.2 ⟨e, List.mem_of_getElem? HJ.out.2.2.1, h1⟩)
        rw [h2]
        simp
    · obtain rfl : j = n := by omega
      have hlt' : ¬ (j : Int) < (j : Int) := by omega
      have HNO := Lib.hid hno
      clear hno hj hlt
      go_wp2
      go_ret
      refine ⟨-1, rfl, ?_, by have h := H1.out.1; rw [← HQ.out] at h; exact below_drewN h m⟩
      have h2 : getV t k = none := getV_none fun p hp => HNO.out p (by rw [List.take_of_length_le (by have := HH.out.2.1; omega)]; exact hp)
      rw [h2]
      rfl
end Go.Proofs.Ytmmibldchfmleaa

/-! The string of a row of bytes. -/
namespace Go.Proofs.Ytmmibldchfmleaa
open Go.RowKit

theorem st_list (l : List UInt8) : (st l).toList = l := by simp [st]
theorem st_app (l m : List UInt8) : st l ++ st m = st (l ++ m) := by
  unfold st
  apply ByteArray.ext
  simp
theorem st_extract (l : List UInt8) (a b : Nat) : (st l).extract a b = st ((l.drop a).take (b - a)) := by
  apply ByteArray.ext
  unfold st
  simp
end Go.Proofs.Ytmmibldchfmleaa

/-! Dedup, the reference: Put. -/
namespace Go.Proofs.Ytmmibldchfmleaa
open Go.RowKit Codec

theorem esByt {w : World} {b off : Nat} {l : List UInt8} (h : ∀ u v, (row8 l)[u]? = some v → w.cell? ((⟨b, off, none⟩ : Addr).add u) = some v) (hb : b < w.heap.size) (h32 : l.length = 32) : Byt w (fun _ => True) (some ⟨b, off, none⟩) 32 32 l :=
  ⟨h32, Nat.le_refl _, by unfold maxLen; omega, fun _ => ⟨b, off, rfl, trivial, hb, fun i hi => by
    have h1 := h i (.int .u8 ((l[i]?.getD 0).toNat : Int)) (by
      rw [row8, List.getElem?_toArray, u8s, List.getElem?_map, List.getElem?_eq_getElem (by omega)]
      rfl)
    rwa [add_plain] at h1⟩⟩
def DrpR (w : World) (t : Tv Pl) (v i : Value) (wr : World) : Prop :=
  ∃ j : Nat, j ≤ t.length ∧ i = .int .i64 (j : Int) ∧ v = .string (st (put t.length ++ plsB (t.take j))) ∧ Below w.heap.size w wr
theorem dstrB_st (l : List UInt8) : strB l = st l := rfl
set_option maxHeartbeats 8000000 in
set_option maxRecDepth 100000 in
theorem drput_any {w : World} {S : Nat → Prop} {A : Option Addr} {n c : Nat} {t : Tv Pl} (ht : Es w S A n c t) (hok : OkT t) (hn : n ≤ 100000) :
    Calls Try.prog 24 #[.slice A n c] w fun e w' => e = .returned (.string (st (ixB t))) ∧ Below w.heap.size w w' := by
  have HL := Lib.hid (And.intro ht (And.intro ht.len hok))
  have hcv := IntWalk.u64_in (n : Int) (by omega)
  have hpu0 := ref_put 10 n w (by have : (128 : Nat) ^ 10 = 1180591620717411303424 := by decide
                                  omega) (by omega)
  clear ht hok
  go_enter Try.func24, Try.ntmps24
  go_upto_region 2 with (go_at_call 41; refine hpu0.mono ?_; clear hpu0; rintro _ w1 ⟨rfl, hb1⟩)
  obtain ⟨PRE, hPRE⟩ : ∃ PRE, PRE = put n := ⟨_, rfl⟩
  rw [← hPRE, dstrB_st]
  have HP : Hid (PRE = put n ∧ PRE.length ≤ 20) := Lib.hid ⟨hPRE, by rw [hPRE]; have h2 := put_length_64 (x := n) (by omega); omega⟩
  have H0 : Hid (DrpR w t (.string (st PRE)) (.int .i64 0) w1) := Lib.hid ⟨0, Nat.zero_le _, rfl, by rw [hPRE, HL.out.2.1]; simp [plsB], hb1⟩
  clear hb1 hPRE hcv
  go_wp2_with fail
  go_loopw [3, 4] (fun v i wr => DrpR w t v i wr) (fun _ i _ => n - (intOf i).toNat)
  case atStart => exact H0.out
  case round =>
    obtain ⟨j, hj, rfl, rfl, hb⟩ := hrel
    clear H0
    obtain ⟨T, hT⟩ : ∃ T, T = put t.length ++ plsB (t.take j) := ⟨_, rfl⟩
    rw [← hT]
    have HT : Hid (T = put t.length ++ plsB (t.take j) ∧ T.length ≤ 10000000) := Lib.hid ⟨hT, by
      rw [hT, List.length_append]
      have h1 := plsB_len (t := t.take j) fun x hx => HL.out.2.2 x (List.mem_of_mem_take hx)
      have h2 := HP.out
      rw [h2.1, ← HL.out.2.1] at h2
      rw [List.length_take] at h1
      have := HL.out.2.1
      omega⟩
    have HB := Lib.hid hb
    clear hT hb
    by_cases hlt : j < n
    · have hlt' : (j : Int) < (n : Int) := by omega
      have hadd := IntWalk.i64_in ((j : Int) + 1) (by omega)
      obtain ⟨q, off, e, rfl, hql, he, h1, h2, hc1, hc2, hc3⟩ := HL.out.1.at_ hlt
      obtain ⟨_, _, hmay⟩ := HL.out.2.2 e (List.mem_of_getElem? he)
      obtain ⟨X, hX, hX2⟩ := mayN_nat hmay
      rw [hX] at hc3
      have hXu := IntWalk.u64_in (X : Int) (by omega)
      obtain ⟨PX, hPX⟩ : ∃ PX, PX = put X := ⟨_, rfl⟩
      have HPU : Hid (∀ W, Calls Try.prog 41 #[.int .u64 (X : Int)] W fun e w' => e = .returned (.string (st PX)) ∧ Below W.heap.size W w') := Lib.hid fun W => by
        rw [hPX]
        exact ref_put 10 X W (by have : (128 : Nat) ^ 10 = 1180591620717411303424 := by decide
                                 omega) (by omega)
      obtain ⟨I1, hI1⟩ : ∃ I1, I1 = e.1 := ⟨_, rfl⟩
      obtain ⟨I2, hI2⟩ : ∃ I2, I2 = e.2.1 := ⟨_, rfl⟩
      rw [← hI1] at hc1 h1
      rw [← hI2] at hc2 h2
      have HLEN : Hid (I1.length = 32 ∧ I2.length = 32 ∧ PX.length ≤ 20) := Lib.hid ⟨h1, h2, by rw [hPX]; have h2 := put_length_64 (x := X) (by omega); omega⟩
      have HC : Hid (∀ W, Below wr.drew.heap.size wr.drew W → Byt W (fun _ => True) (some ⟨q, off + j * 65, none⟩) 32 32 I1 ∧ Byt W (fun _ => True) (some ⟨q, off + j * 65 + 32, none⟩) 32 32 I2 ∧ W.cell? ⟨q, off + j * 65 + 64, none⟩ = some (.int .i64 (X : Int))) := Lib.hid fun W hW => by
        have hw := HB.out.trans ((Grow.below_of_drew hW).mono HB.out.size)
        exact ⟨(esByt hc1 hql h1).below hw, (esByt hc2 hql h2).below hw, (hw.cell (p := ⟨_, _, none⟩) hql).trans hc3⟩
      have HNX : Hid (T ++ (I1 ++ (I2 ++ PX)) = put t.length ++ plsB (t.take (j + 1))) := Lib.hid (by
        rw [HT.out.1, ddtake_snoc' he, plsB_snoc, plB, hI1, hI2, hPX, hX, Int.toNat_natCast]; simp)
      clear hql he h1 h2 hc1 hc2 hc3 hmay hX hPX hI1 hI2 hj
      go_wp2
      refine wp_region_grow (fun W W' => Below W.heap.size W W') (Grow.nth [fun v _ => v = .string (st T), fun v _ => v = .slice (some ⟨q, off, none⟩) n c, fun v _ => v = .int .i64 (j : Int), fun v _ => v = .pointer (some ⟨q, off + j * 65, none⟩), fun v _ => v = .pointer (some ⟨q, off + j * 65, none⟩), fun v _ => v = .slice (some ⟨q, off + j * 65, none⟩) 32 32, fun v _ => v = .string (st I1), fun v _ => v = .slice (some ⟨q, off, none⟩) n c, fun v _ => v = .int .i64 (j : Int), fun v _ => v = .pointer (some ⟨q, off + j * 65, none⟩), fun v _ => v = .pointer (some ⟨q, off + j * 65 + 32, none⟩), fun v _ => v = .slice (some ⟨q, off + j * 65 + 32, none⟩) 32 32, fun v _ => v = .string (st I2), fun v _ => v = .string (st (I1 ++ I2)), fun v _ => v = .slice (some ⟨q, off, none⟩) n c, fun v _ => v = .int .i64 (j : Int), fun v _ => v = .pointer (some ⟨q, off + j * 65, none⟩), fun v _ => v = .pointer (some ⟨q, off + j * 65 + 64, none⟩), fun v _ => v = .int .i64 (X : Int), fun v _ => v = .int .u64 (X : Int), fun v _ => v = .string (st PX), fun v _ => v = .string (st (I1 ++ (I2 ++ PX))), fun v _ => v = .string (st (T ++ (I1 ++ (I2 ++ PX)))), fun v _ => v = .string (st (T ++ (I1 ++ (I2 ++ PX))))]) 39 (by kernel_rfl) (by kernel_rfl) (by rfl) (fun W => Below.refl _ W) (fun _ _ _ h1 h2 => h1.trans (h2.mono h1.size)) (Grow.mono_nth ?gmono) ?gsteps ?gfin
      case gmono => exact ⟨fun _ _ _ h _ => h, fun _ _ _ h _ => h, fun _ _ _ h _ => h, fun _ _ _ h _ => h, fun _ _ _ h _ => h, fun _ _ _ h _ => h, fun _ _ _ h _ => h, fun _ _ _ h _ => h, fun _ _ _ h _ => h, fun _ _ _ h _ => h, fun _ _ _ h _ => h, fun _ _ _ h _ => h, fun _ _ _ h _ => h, fun _ _ _ h _ => h, fun _ _ _ h _ => h, fun _ _ _ h _ => h, fun _ _ _ h _ => h, fun _ _ _ h _ => h, fun _ _ _ h _ => h, fun _ _ _ h _ => h, fun _ _ _ h _ => h, fun _ _ _ h _ => h, fun _ _ _ h _ => h, fun _ _ _ h _ => h, trivial⟩
      case gsteps =>
        show Grow.allBelow _ 24
        refine And.intro ?_ ?s23
        refine And.intro ?_ ?s22
        refine And.intro ?_ ?s21
        refine And.intro ?_ ?s20
        refine And.intro ?_ ?s19
        refine And.intro ?_ ?s18
        refine And.intro ?_ ?s17
        refine And.intro ?_ ?s16
        refine And.intro ?_ ?s15
        refine And.intro ?_ ?s14
        refine And.intro ?_ ?s13
        refine And.intro ?_ ?s12
        refine And.intro ?_ ?s11
        refine And.intro ?_ ?s10
        refine And.intro ?_ ?s9
        refine And.intro ?_ ?s8
        refine And.intro ?_ ?s7
        refine And.intro ?_ ?s6
        refine And.intro ?_ ?s5
        refine And.intro ?_ ?s4
        refine And.intro ?_ ?s3
        refine And.intro ?_ ?s2
        refine And.intro ?_ ?s1
        refine And.intro ?_ ?s0
        exact trivial
        case s0 =>
          refine Grow.step_in (by rfl) (by rfl) ?_
          intro E W ec eg ef hG hd hu R HR
          have e3 : E (.tmp 3) = .string (st T) := hu 3 (by kernel_rfl)
          clear hd hu
          go_simp
          exact HR.out _ _ (Below.refl _ _) rfl
        case s1 =>
          refine Grow.step_in (by rfl) (by rfl) ?_
          intro E W ec eg ef hG hd hu R HR
          have e0 : E (.tmp 0) = .slice (some ⟨q, off, none⟩) n c := hu 0 (by kernel_rfl)
          clear hd hu
          go_simp
          exact HR.out _ _ (Below.refl _ _) rfl
        case s2 =>
          refine Grow.step_in (by rfl) (by rfl) ?_
          intro E W ec eg ef hG hd hu R HR
          have e4 : E (.tmp 4) = .int .i64 (j : Int) := hu 4 (by kernel_rfl)
          clear hd hu
          go_simp
          exact HR.out _ _ (Below.refl _ _) rfl
        case s3 =>
          refine Grow.step_in (by rfl) (by rfl) ?_
          intro E W ec eg ef hG hd hu R HR
          have e16 : E (.tmp 16) = .slice (some ⟨q, off, none⟩) n c := hd 1 16 (by kernel_rfl)
          have e17 : E (.tmp 17) = .int .i64 (j : Int) := hd 2 17 (by kernel_rfl)
          clear hd hu
          have hjl := hlt'
          go_simp
          first | exact HR.out _ _ (Below.refl _ _) rfl | (rw [if_pos ⟨by omega, by omega⟩]; exact HR.out _ _ (Below.refl _ _) rfl)
        case s4 =>
          refine Grow.step_in (by rfl) (by rfl) ?_
          intro E W ec eg ef hG hd hu R HR
          have e18 : E (.tmp 18) = .pointer (some ⟨q, off + j * 65, none⟩) := hd 3 18 (by kernel_rfl)
          clear hd hu
          go_simp
          exact HR.out _ _ (Below.refl _ _) rfl
        case s5 =>
          refine Grow.step_in (by rfl) (by rfl) ?_
          intro E W ec eg ef hG hd hu R HR
          have e19 : E (.tmp 19) = .pointer (some ⟨q, off + j * 65, none⟩) := hd 4 19 (by kernel_rfl)
          clear hd hu
          go_simp
          exact HR.out _ _ (Below.refl _ _) rfl
        case s6 =>
          refine Grow.step_in (by rfl) (by rfl) ?_
          intro E W ec eg ef hG hd hu R HR
          have e20 : E (.tmp 20) = .slice (some ⟨q, off + j * 65, none⟩) 32 32 := hd 5 20 (by kernel_rfl)
          clear hd hu
          have hcv := byt_string (HC.out W hG).1
          go_simp
          exact HR.out _ _ (Below.refl _ _) rfl
        case s7 =>
          refine Grow.step_in (by rfl) (by rfl) ?_
          intro E W ec eg ef hG hd hu R HR
          have e0 : E (.tmp 0) = .slice (some ⟨q, off, none⟩) n c := hu 0 (by kernel_rfl)
          clear hd hu
          go_simp
          exact HR.out _ _ (Below.refl _ _) rfl
        case s8 =>
          refine Grow.step_in (by rfl) (by rfl) ?_
          intro E W ec eg ef hG hd hu R HR
          have e4 : E (.tmp 4) = .int .i64 (j : Int) := hu 4 (by kernel_rfl)
          clear hd hu
          go_simp
          exact HR.out _ _ (Below.refl _ _) rfl
        case s9 =>
          refine Grow.step_in (by rfl) (by rfl) ?_
          intro E W ec eg ef hG hd hu R HR
          have e22 : E (.tmp 22) = .slice (some ⟨q, off, none⟩) n c := hd 7 22 (by kernel_rfl)
          have e23 : E (.tmp 23) = .int .i64 (j : Int) := hd 8 23 (by kernel_rfl)
          clear hd hu
          have hjl := hlt'
          go_simp
          first | exact HR.out _ _ (Below.refl _ _) rfl | (rw [if_pos ⟨by omega, by omega⟩]; exact HR.out _ _ (Below.refl _ _) rfl)
        case s10 =>
          refine Grow.step_in (by rfl) (by rfl) ?_
          intro E W ec eg ef hG hd hu R HR
          have e24 : E (.tmp 24) = .pointer (some ⟨q, off + j * 65, none⟩) := hd 9 24 (by kernel_rfl)
          clear hd hu
          go_simp
          exact HR.out _ _ (Below.refl _ _) rfl
        case s11 =>
          refine Grow.step_in (by rfl) (by rfl) ?_
          intro E W ec eg ef hG hd hu R HR
          have e25 : E (.tmp 25) = .pointer (some ⟨q, off + j * 65 + 32, none⟩) := hd 10 25 (by kernel_rfl)
          clear hd hu
          go_simp
          exact HR.out _ _ (Below.refl _ _) rfl
        case s12 =>
          refine Grow.step_in (by rfl) (by rfl) ?_
          intro E W ec eg ef hG hd hu R HR
          have e26 : E (.tmp 26) = .slice (some ⟨q, off + j * 65 + 32, none⟩) 32 32 := hd 11 26 (by kernel_rfl)
          clear hd hu
          have hcv := byt_string (HC.out W hG).2.1
          go_simp
          exact HR.out _ _ (Below.refl _ _) rfl
        case s13 =>
          refine Grow.step_in (by rfl) (by rfl) ?_
          intro E W ec eg ef hG hd hu R HR
          have e21 : E (.tmp 21) = .string (st I1) := hd 6 21 (by kernel_rfl)
          have e27 : E (.tmp 27) = .string (st I2) := hd 12 27 (by kernel_rfl)
          clear hd hu
          have s1 := st_size I1
          have s2 := st_size I2
          have s3 := st_size PX
          have s4 := st_size T
          have s5 := st_size (I1 ++ I2)
          have s6 := st_size (I1 ++ (I2 ++ PX))
          rw [List.length_append] at s5
          rw [List.length_append, List.length_append] at s6
          have l1 := HLEN.out
          have l2 := HT.out.2
          go_simp
          first | (rw [st_app]; exact HR.out _ _ (Below.refl _ _) rfl) | (rw [if_neg (by omega), st_app]; exact HR.out _ _ (Below.refl _ _) rfl)
        case s14 =>
          refine Grow.step_in (by rfl) (by rfl) ?_
          intro E W ec eg ef hG hd hu R HR
          have e0 : E (.tmp 0) = .slice (some ⟨q, off, none⟩) n c := hu 0 (by kernel_rfl)
          clear hd hu
          go_simp
          exact HR.out _ _ (Below.refl _ _) rfl
        case s15 =>
          refine Grow.step_in (by rfl) (by rfl) ?_
          intro E W ec eg ef hG hd hu R HR
          have e4 : E (.tmp 4) = .int .i64 (j : Int) := hu 4 (by kernel_rfl)
          clear hd hu
          go_simp
          exact HR.out _ _ (Below.refl _ _) rfl
        case s16 =>
          refine Grow.step_in (by rfl) (by rfl) ?_
          intro E W ec eg ef hG hd hu R HR
          have e29 : E (.tmp 29) = .slice (some ⟨q, off, none⟩) n c := hd 14 29 (by kernel_rfl)
          have e30 : E (.tmp 30) = .int .i64 (j : Int) := hd 15 30 (by kernel_rfl)
          clear hd hu
          have hjl := hlt'
          go_simp
          first | exact HR.out _ _ (Below.refl _ _) rfl | (rw [if_pos ⟨by omega, by omega⟩]; exact HR.out _ _ (Below.refl _ _) rfl)
        case s17 =>
          refine Grow.step_in (by rfl) (by rfl) ?_
          intro E W ec eg ef hG hd hu R HR
          have e31 : E (.tmp 31) = .pointer (some ⟨q, off + j * 65, none⟩) := hd 16 31 (by kernel_rfl)
          clear hd hu
          go_simp
          exact HR.out _ _ (Below.refl _ _) rfl
        case s18 =>
          refine Grow.step_in (by rfl) (by rfl) ?_
          intro E W ec eg ef hG hd hu R HR
          have e32 : E (.tmp 32) = .pointer (some ⟨q, off + j * 65 + 64, none⟩) := hd 17 32 (by kernel_rfl)
          clear hd hu
          have hcc := (HC.out W hG).2.2
          go_simp
          exact HR.out _ _ (Below.refl _ _) rfl
        case s19 =>
          refine Grow.step_in (by rfl) (by rfl) ?_
          intro E W ec eg ef hG hd hu R HR
          have e33 : E (.tmp 33) = .int .i64 (X : Int) := hd 18 33 (by kernel_rfl)
          clear hd hu
          go_simp
          exact HR.out _ _ (Below.refl _ _) rfl
        case s20 =>
          refine Grow.step_in (by rfl) (by rfl) ?_
          intro E W ec eg ef hG hd hu R HR
          have e34 : E (.tmp 34) = .int .u64 (X : Int) := hd 19 34 (by kernel_rfl)
          clear hd hu
          have hcc := HPU.out W
          go_simp
          refine hcc.mono ?_
          rintro _ _ ⟨rfl, hbb⟩
          exact ⟨_, rfl, HR.out _ _ hbb rfl⟩
        case s21 =>
          refine Grow.step_in (by rfl) (by rfl) ?_
          intro E W ec eg ef hG hd hu R HR
          have e28 : E (.tmp 28) = .string (st (I1 ++ I2)) := hd 13 28 (by kernel_rfl)
          have e35 : E (.tmp 35) = .string (st PX) := hd 20 35 (by kernel_rfl)
          clear hd hu
          have s1 := st_size I1
          have s2 := st_size I2
          have s3 := st_size PX
          have s4 := st_size T
          have s5 := st_size (I1 ++ I2)
          have s6 := st_size (I1 ++ (I2 ++ PX))
          rw [List.length_append] at s5
          rw [List.length_append, List.length_append] at s6
          have l1 := HLEN.out
          have l2 := HT.out.2
          go_simp
          first | (rw [st_app, List.append_assoc]; exact HR.out _ _ (Below.refl _ _) rfl) | (rw [if_neg (by omega), st_app, List.append_assoc]; exact HR.out _ _ (Below.refl _ _) rfl)
        case s22 =>
          refine Grow.step_in (by rfl) (by rfl) ?_
          intro E W ec eg ef hG hd hu R HR
          have e15 : E (.tmp 15) = .string (st T) := hd 0 15 (by kernel_rfl)
          have e36 : E (.tmp 36) = .string (st (I1 ++ (I2 ++ PX))) := hd 21 36 (by kernel_rfl)
          clear hd hu
          have s1 := st_size I1
          have s2 := st_size I2
          have s3 := st_size PX
          have s4 := st_size T
          have s5 := st_size (I1 ++ I2)
          have s6 := st_size (I1 ++ (I2 ++ PX))
          rw [List.length_append] at s5
          rw [List.length_append, List.length_append] at s6
          have l1 := HLEN.out
          have l2 := HT.out.2
          go_simp
          first | (rw [st_app]; exact HR.out _ _ (Below.refl _ _) rfl) | (rw [if_neg (by omega), st_app]; exact HR.out _ _ (Below.refl _ _) rfl)
        case s23 =>
          refine Grow.step_in (by rfl) (by rfl) ?_
          intro E W ec eg ef hG hd hu R HR
          have e37 : E (.tmp 37) = .string (st (T ++ (I1 ++ (I2 ++ PX)))) := hd 22 37 (by kernel_rfl)
          clear hd hu
          go_simp
          exact HR.out _ _ (Below.refl _ _) rfl
      case gfin =>
        intro W hG
        refine Grow.fin_dst (by rfl) ?_
        rintro _ rfl
        refine Grow.fin_dst (by rfl) ?_
        rintro _ rfl
        refine Grow.fin_dst (by rfl) ?_
        rintro _ rfl
        refine Grow.fin_dst (by rfl) ?_
        rintro _ rfl
        refine Grow.fin_dst (by rfl) ?_
        rintro _ rfl
        refine Grow.fin_dst (by rfl) ?_
        rintro _ rfl
        refine Grow.fin_dst (by rfl) ?_
        rintro _ rfl
        refine Grow.fin_dst (by rfl) ?_
        rintro _ rfl
        refine Grow.fin_dst (by rfl) ?_
        rintro _ rfl
        refine Grow.fin_dst (by rfl) ?_
        rintro _ rfl
        refine Grow.fin_dst (by rfl) ?_
        rintro _ rfl
        refine Grow.fin_dst (by rfl) ?_
        rintro _ rfl
        refine Grow.fin_dst (by rfl) ?_
        rintro _ rfl
        refine Grow.fin_dst (by rfl) ?_
        rintro _ rfl
        refine Grow.fin_dst (by rfl) ?_
        rintro _ rfl
        refine Grow.fin_dst (by rfl) ?_
        rintro _ rfl
        refine Grow.fin_dst (by rfl) ?_
        rintro _ rfl
        refine Grow.fin_dst (by rfl) ?_
        rintro _ rfl
        refine Grow.fin_dst (by rfl) ?_
        rintro _ rfl
        refine Grow.fin_dst (by rfl) ?_
        rintro _ rfl
        refine Grow.fin_dst (by rfl) ?_
        rintro _ rfl
        refine Grow.fin_dst (by rfl) ?_
        rintro _ rfl
        refine Grow.fin_dst (by rfl) ?_
        rintro _ rfl
        refine Grow.fin_dst (by rfl) ?_
        rintro _ rfl
        simp only [Act.put, List.setIfInBounds_toArray, List.set_cons_zero, List.set_cons_succ]
        refine Grow.fin_end ?_
        have HB2 : Hid (Below w.heap.size w W) := Lib.hid (HB.out.trans ((Grow.below_of_drew hG).mono HB.out.size))
        clear hG
        go_wp2_with fail
        go_roundw
        case rel => exact ⟨j + 1, by have := HL.out.2.1; omega, by simp, by rw [← HNX.out], HB2.out⟩
        case measure => simp only [intOf]; omega
    · have hlt' : ¬ (j : Int) < (n : Int) := by omega
      have hfull : t.take j = t := List.take_of_length_le (by have := HL.out.2.1; omega)
      have HF : Hid (T = ixB t) := Lib.hid (by rw [HT.out.1, hfull]; rfl)
      clear hlt hfull hj
      go_wp2_with fail
      go_ret
      exact ⟨by rw [HF.out]; rfl, HB.out⟩
end Go.Proofs.Ytmmibldchfmleaa

/-! Dedup, the reference: a list of objects that grows. -/
namespace Go.Proofs.Ytmmibldchfmleaa
open Go.RowKit Go.Maps Codec

def zE : List UInt8 × Pl := (List.replicate 32 0, (List.replicate 32 0, 0))
def zEC : Array Value := (eC zE).toArray
theorem e_info3 : (Try.prog.info? 41).map (fun i => (i.zero, i.size, i.bytes)) = some (some (.agg zEC), 65, 72) := by unfold zEC eC zE u8s; kernel_rfl
theorem made_e : madeCells (Value.agg zEC).cells (1 * 65) = zEC := by unfold zEC eC zE u8s; kernel_rfl
set_option maxRecDepth 100000 in
theorem fill_e' {l m : List UInt8} {X : Int} (h1 : l.length = 32) (h2 : m.length = 32) : Instr.fill (fun i => some (i * 65, 65)) (u8s (List.replicate 32 0) ++ (u8s (List.replicate 32 0) ++ [Value.int .i64 0])).toArray [(0, .agg (u8s l ++ (u8s m ++ [Value.int .i64 X])).toArray)] = some (u8s l ++ (u8s m ++ [Value.int .i64 X])).toArray := by
  obtain ⟨a0, a1, a2, a3, a4, a5, a6, a7, a8, a9, b0, b1, b2, b3, b4, b5, b6, b7, b8, b9, c0, c1, c2, c3, c4, c5, c6, c7, c8, c9, d0, d1, rfl⟩ := list32' h1
  obtain ⟨e0, e1, e2, e3, e4, e5, e6, e7, e8, e9, f0, f1, f2, f3, f4, f5, f6, f7, f8, f9, g0, g1, g2, g3, g4, g5, g6, g7, g8, g9, i0, i1, rfl⟩ := list32' h2
  unfold u8s
  kernel_rfl
theorem fill_e {e : List UInt8 × Pl} (h1 : e.1.length = 32) (h2 : e.2.1.length = 32) : Instr.fill (fun i => some (i * 65, 65)) zEC [(0, .agg (eC e).toArray)] = some (eC e).toArray := fill_e' h1 h2
theorem run_e_lit (w : World) (XS : Array Value) {e : List UInt8 × Pl} (h : XS = (eC e).toArray) (h1 : e.1.length = 32) (h2 : e.2.1.length = 32) : (Instr.buildSlice 26 1 #[(0, .agg XS)]).run Try.prog w = .ok (.slice (some ⟨w.heap.size, 0, none⟩) 1 1) (w.alloc (.cells XS 41)) := by
  obtain ⟨i0, hi, hz0, hz1, _⟩ := info_parts e_info3
  have hm := made_e
  unfold madeCells at hm
  subst h
  refine run_buildSlice w 26 41 1 #[(0, .agg (eC e).toArray)] (eC e).toArray i0 (.agg zEC) Try.underlying26 hi hz0 (by rw [hz1]; omega) (by rw [hz1]; omega) ?_
  rw [hz1, hm]
  exact fill_e h1 h2
theorem eC_one (e : List UInt8 × Pl) : (eC e).all (·.oneCell') = true := by
  rw [List.all_eq_true]
  intro u hu
  unfold eC at hu
  rcases List.mem_append.1 hu with hu | hu
  · exact u8s_one _ u hu
  · rcases List.mem_append.1 hu with hu | hu
    · exact u8s_one _ u hu
    · simp only [List.mem_singleton] at hu
      rw [hu]
      rfl
def eCs (t : Tv Pl) : List Value := t.flatMap eC
theorem eCs_snoc (t : Tv Pl) (e : List UInt8 × Pl) : eCs (t ++ [e]) = eCs t ++ eC e := by simp [eCs]
theorem eCs_len {t : Tv Pl} (h : ∀ e ∈ t, e.1.length = 32 ∧ e.2.1.length = 32) : (eCs t).length = t.length * 65 := by
  induction t with
  | nil => rfl
  | cons e t ih =>
    have e1 : eCs (e :: t) = eC e ++ eCs t := rfl
    rw [e1, List.length_append, ih fun x hx => h x (by simp [hx]), eC_len (h e (by simp)).1 (h e (by simp)).2, List.length_cons]
    omega
theorem eCs_at : ∀ {t : Tv Pl} (_ : ∀ e ∈ t, e.1.length = 32 ∧ e.2.1.length = 32) {i : Nat} {e : List UInt8 × Pl} (_ : t[i]? = some e) {j : Nat} {v : Value} (_ : (eC e)[j]? = some v), (eCs t)[i * 65 + j]? = some v
  | [], _, i, e, he, _, _, _ => by simp at he
  | x :: t, h, 0, e, he, j, v, hv => by
    obtain rfl : x = e := by simpa using he
    have e1 : eCs (x :: t) = eC x ++ eCs t := rfl
    rw [e1, Nat.zero_mul, Nat.zero_add, List.getElem?_append_left (List.getElem?_eq_some_iff.1 hv).1]
    exact hv
  | x :: t, h, i + 1, e, he, j, v, hv => by
    have e1 : eCs (x :: t) = eC x ++ eCs t := rfl
    have hl := eC_len (h x (by simp)).1 (h x (by simp)).2
    rw [e1, List.getElem?_append_right (by omega), hl, show (i + 1) * 65 + j - 65 = i * 65 + j by omega]
    exact eCs_at (fun y hy => h y (by simp [hy])) (by simpa using he) hv
/-- A row of one's own reads as its list. -/
theorem Es.of_own {W : World} {B : Nat} {A : Option Addr} {n c : Nat} {t : Tv Pl} (h : W.ownsRow B 41 65 (.slice A n c) n (eCs t)) (he : ∀ e ∈ t, e.1.length = 32 ∧ e.2.1.length = 32) (hl : t.length = n) : Es W (B ≤ ·) A n c t := by
  rcases h.2 with ⟨e, e0⟩ | ⟨g, cap, cur, e, hb, hg, hc, hm, _⟩
  · injection e with e1 e2 e3
    subst e0
    rw [List.eq_nil_of_length_eq_zero hl, e3]
    exact Es.nil _ _ _ _ (Nat.zero_le _)
  · injection e with e1 e2 e3
    subst e3
    exact ⟨hl, he, hc, hm, fun _ => ⟨g, 0, e1, hb, lt_of_cells hg, fun i x hx j v hv => by
      have h1 := eCs_at he hx hv
      have h2 := (List.getElem?_eq_some_iff.1 h1).1
      subst e1
      rw [Nat.zero_add, h.cellAt _ (by rw [eCs_len he, hl] at h2; exact h2), h1]⟩⟩
theorem epush {W : World} {B : Nat} {v : Value} {t : Tv Pl} {e : List UInt8 × Pl} (h : W.ownsRow B 41 65 v t.length (eCs t)) (h1 : e.1.length = 32) (h2 : e.2.1.length = 32) (hB : B ≤ W.heap.size) (hn : t.length ≤ 1000000) (ty : TypeId) :
    ∃ A' c' W1, (Builtin.append_ #[26, 26] ty #[v, .slice (some ⟨W.heap.size, 0, none⟩) 1 1]).run Try.prog (W.alloc (.cells (eC e).toArray 41)) = .ok (.slice A' (t.length + 1) c') W1 ∧ W1.ownsRow B 41 65 (.slice A' (t.length + 1) c') (t ++ [e]).length (eCs (t ++ [e])) ∧ Below B W W1 := by
  obtain ⟨i1, hi, hz0, hz1, hz2⟩ := info_parts e_info3
  have hk : (W.alloc (.cells (eC e).toArray 41)).ownsRow B 41 65 v t.length (eCs t) := by
    refine ⟨h.1, ?_⟩
    rcases h.2 with hn | ⟨g, cap, cur, x1, x2, x3, rest⟩
    · exact .inl hn
    · exact .inr ⟨g, cap, cur, x1, x2, (Below.heap_alloc _ _ _ (lt_of_cells x3)).trans x3, rest⟩
  obtain ⟨v', W1, hrun, g1, g2, _, g4⟩ := run_append_own_at (P := Try.prog) (W.alloc (.cells (eC e).toArray 41)) B 26 ty 41 i1 (.agg zEC) 65 72 Try.underlying26 hi hz0 hz1 hz2 (by unfold zEC eC zE u8s; rfl) (by decide) v _ _ hk ⟨W.heap.size, 0, none⟩ 1 1 (eC e) (eC_len h1 h2)
      (fun j u hj => by rw [add_plain, Nat.zero_add, cell_of_cells (heap_alloc_new W _)]; simpa using hj) (fun u hu => List.all_eq_true.1 (eC_one e) u hu) (by unfold maxLen; omega) (by omega) (by simp; omega)
  obtain ⟨A', c', rfl⟩ : ∃ A' c', v' = .slice A' (t.length + 1) c' := by
    rcases g1.2 with ⟨_, e0⟩ | ⟨g, cap, cur, rfl, _⟩
    · omega
    · exact ⟨_, cap, rfl⟩
  refine ⟨A', c', W1, hrun, ?_, ((Below.refl B W).alloc hB _).grown g2 (by simp; omega) fun k hk' => (hk.lt k hk').1⟩
  rw [List.length_append, eCs_snoc]
  exact g1
end Go.Proofs.Ytmmibldchfmleaa

/-! Dedup, the reference: Drop. -/
namespace Go.Proofs.Ytmmibldchfmleaa
open Go.RowKit Go.Maps Codec

theorem e_size : (Try.prog.info? 41).map (·.size) = some 65 := by kernel_rfl
theorem dropT_snoc (t : Tv Pl) (e : List UInt8 × Pl) (pk : List UInt8) : dropT (t ++ [e]) pk = dropT t pk ++ (if e.2.1 = pk then [] else [e]) := by
  unfold dropT
  rw [List.filter_append]
  by_cases h : e.2.1 = pk <;> simp [h]
theorem wpList_lit1 {P : Program} {ops : Array Oper} {rest : List Oper} {o : Oper} {a : Act} {w w' : World} {Q : Exit → Act → World → Prop} (hgd : o.guard = none) (t : TypeId) (x : Operand) (ho : o.op = .buildSlice t 1 #[(0, x)]) {u v' : Value} (hx : a.eval x = u)
    (hrun : (Instr.buildSlice t 1 #[(0, u)]).run P w = .ok v' w') (h : wpList P ops Q rest (a.put o.dst v') w') : wpList P ops Q (o :: rest) a w :=
  wpList_plain hgd fun K hK => by
    unfold Oper.wp execOp
    simp only [ho, Sem.run_bind, Sem.run_pure, Result.andThen_ok, List.map_toArray, List.map_cons, List.map_nil, hx, hrun]
    exact hK _ _ h
theorem eslice {W : World} {base : Nat} {e : TypeId} {size k : Nat} {v : Value} {xs : List Value} (h : W.ownsRow base e size v k xs) : ∃ A c, v = .slice A k c := by
  rcases h.2 with ⟨rfl, rfl⟩ | ⟨g, cap, cur, rfl, _⟩
  · exact ⟨none, 0, rfl⟩
  · exact ⟨_, cap, rfl⟩
theorem ddkeepE {w w' : World} {base : Nat} {e : TypeId} {size : Nat} {v : Value} {n : Nat} {xs : List Value} (h : w.ownsRow base e size v n xs) (hb : ∀ q, v.ownBlock = some q → w'.heap[q]? = w.heap[q]?) : w'.ownsRow base e size v n xs := by
  refine ⟨h.1, ?_⟩
  rcases h.2 with hn | ⟨g, cap, cur, h1, h2, h3, rest⟩
  · exact .inl hn
  · exact .inr ⟨g, cap, cur, h1, h2, (hb g (by rw [h1]; rfl)).trans h3, rest⟩
def DrdR (w1 : World) (t : Tv Pl) (pk : List UInt8) (v i : Value) (wr : World) : Prop :=
  ∃ j : Nat, j ≤ t.length ∧ i = .int .i64 (j : Int) ∧ wr.ownsRow w1.heap.size 41 65 v (dropT (t.take j) pk).length (eCs (dropT (t.take j) pk)) ∧ Below w1.heap.size w1 wr
set_option maxHeartbeats 4000000 in
set_option maxRecDepth 100000 in
theorem drdrop_any {w : World} {S : Nat → Prop} {A : Option Addr} {n c : Nat} {t : Tv Pl} (h : Es w S A n c t) (hn : n ≤ 100000) {pk : List UInt8} (hk : pk.length = 32) :
    Calls Try.prog 12 #[.slice A n c, .agg (row8 pk)] w fun e w' => ∃ A' c', e = .returned (.tuple #[.slice A' (dropT t pk).length c', .int .i64 ((t.length - (dropT t pk).length : Nat) : Int)]) ∧ Es w' (w.heap.size ≤ ·) A' (dropT t pk).length c' (dropT t pk) ∧ Below w.heap.size w w' := by
  obtain ⟨KS, hKS⟩ : ∃ KS, KS = row8 pk := ⟨_, rfl⟩
  have hb1 : Below w.heap.size w (w.alloc (.cells KS 31)) := (Below.refl _ _).alloc (Nat.le_refl _) _
  have hr1 := heap_alloc_new w (.cells KS 31)
  rw [← hKS]
  have HK : Hid (KS = row8 pk ∧ KS.size = 32 ∧ pk.length = 32) := Lib.hid ⟨hKS, by rw [hKS, row8_size, hk], hk⟩
  have HH := Lib.hid (And.intro h (And.intro h.len hn))
  have H1 := Lib.hid (And.intro hb1 hr1)
  clear h hn hk hb1 hr1 hKS
  go_enter Try.func12, Try.ntmps12
  go_upto_region 3 with fail
  have HSZ : Hid ((w.alloc (.cells KS 31)).heap.size = w.heap.size + 1) := Lib.hid (by simp)
  generalize w.alloc (.cells KS 31) = w1 at H1 HSZ ⊢
  generalize hq : w.heap.size = q at H1 HSZ ⊢
  have HQ := Lib.hid hq
  clear hq
  go_loopw [6, 7] (fun v i wr => DrdR w1 t pk v i wr) (fun _ i _ => n - (intOf i).toNat)
  case atStart => exact ⟨0, Nat.zero_le _, rfl, by simpa [dropT, eCs] using World.ownsRow_nil _ _ _ _, Below.refl _ _⟩
  case round =>
    obtain ⟨j, hj, rfl, how, hbw⟩ := hrel
    obtain ⟨Av, cv, rfl⟩ := eslice how
    have hle : (dropT (t.take j) pk).length ≤ n := by
      have h1 := dropT_len (t.take j) pk
      rw [List.length_take] at h1
      have := HH.out.2.1
      omega
    by_cases hlt : j < n
    · have hlt' : (j : Int) < (n : Int) := by omega
      obtain ⟨b, off, hA, _, hbl, hcc⟩ := HH.out.1.row (by omega)
      obtain ⟨b', off', e, hA', _, he, h1, h2, _, hc, _⟩ := HH.out.1.at_ hlt
      obtain ⟨rfl, rfl⟩ : b' = b ∧ off' = off := by
        rw [hA] at hA'
        injection hA' with e1
        injection e1 with e2 e3
        exact ⟨e2.symm, e3.symm⟩
      subst hA
      have hce := fun u v (hu : (eC e).toArray[u]? = some v) => hcc j e he u v (by rwa [List.getElem?_toArray] at hu)
      obtain ⟨PS, hPS⟩ : ∃ PS, PS = row8 e.2.1 := ⟨_, rfl⟩
      obtain ⟨ES, hES⟩ : ∃ ES, ES = (eC e).toArray := ⟨_, rfl⟩
      rw [← hPS] at hc
      rw [← hES] at hce
      have HE : Hid (PS.size = 32 ∧ ES.size = 65) := Lib.hid ⟨by rw [hPS, row8_size, h2], by rw [hES, List.size_toArray, eC_len h1 h2]⟩
      obtain ⟨Z, hZ⟩ : ∃ Z, Z = decide (e.2.1 = pk) := ⟨_, rfl⟩
      have hqe : ∀ W, (Op.equalIn 10000 31 (.agg PS) (.agg KS)).run Try.prog W = .ok Z W := fun W => by rw [hPS, HK.out.1, hZ]; exact dd_ideq _ _ h2 HK.out.2.2 W
      have hbq : b' < w1.heap.size := by have h1 := HSZ.out; have h2 := HQ.out; omega
      have hw1 : ∀ o, w.cell? ⟨b', o, none⟩ = (wr.drew).cell? ⟨b', o, none⟩ := fun o => ((hbw.cell (p := ⟨b', o, none⟩) hbq).trans (H1.out.1.cell (p := ⟨b', o, none⟩) (by have h2 := HQ.out; show b' < q; omega))).symm
      have hC : (fun W : World => (∀ u v, PS[u]? = some v → W.cell? ((⟨b', off' + j * 65 + 32, none⟩ : Addr).add u) = some v) ∧ W.heap[q]? = some (.cells KS 31 (0, 0))) wr.drew := ⟨fun u v hu => by
          have h := hc u v hu
          rw [add_plain] at h ⊢
          rw [← hw1]
          exact h, (hbw.block q (lt_of_cells H1.out.2)).trans H1.out.2⟩
      have HCE : Hid (∀ u v, ES[u]? = some v → wr.drew.cell? ((⟨b', off' + j * 65, none⟩ : Addr).add u) = some v) := Lib.hid fun u v hu => by
        have h := hce u v hu
        rw [add_plain, Nat.add_assoc, ← hw1]
        exact h
      have hlit := run_e_lit wr.drew ES hES h1 h2
      obtain ⟨A2, c2, w2, hap, how2, hb2⟩ := epush (W := wr.drew) (e := e) (ddkeepE how fun _ _ => rfl) h1 h2 hbw.size (by have := HH.out.2.2; omega) 26
      rw [← hES] at hap
      have hjj := IntWalk.i64_in ((j : Int) + 1) (by have := HH.out.2.2; omega)
      have HJ := Lib.hid (And.intro hlt (And.intro he hZ))
      have HO := Lib.hid (And.intro how (And.intro how2 (And.intro hbw hb2)))
      clear hZ hPS hES hc hcc hce he h1 h2 hbl hj hlt hbq hw1 how how2 hbw hb2 hle
      go_wp2
      refine wp_region_plan (fun W : World => (∀ u v, PS[u]? = some v → W.cell? ((⟨b', off' + j * 65 + 32, none⟩ : Addr).add u) = some v) ∧ W.heap[q]? = some (.cells KS 31 (0, 0))) [] [0, 1, 2, 3, 4, 5, 6] (by kernel_rfl) (by kernel_rfl) (fun _ _ d _ _ h => by cases d <;> exact h) hC ?_
      refine plan_last ?_
      refine seg_read ?v1 (by rfl) (by rfl) ?h1 ?_
      case h1 => intro W hW; go_simp; with_reducible rfl
      try simp only [Act.put, List.setIfInBounds_toArray, List.set_cons_zero, List.set_cons_succ]
      refine seg_read ?v2 (by rfl) (by rfl) ?h2 ?_
      case h2 => intro W hW; go_simp; with_reducible rfl
      try simp only [Act.put, List.setIfInBounds_toArray, List.set_cons_zero, List.set_cons_succ]
      refine seg_read ?v3 (by rfl) (by rfl) ?h3 ?_
      case h3 => intro W hW; go_simp; with_reducible rfl
      try simp only [Act.put, List.setIfInBounds_toArray, List.set_cons_zero, List.set_cons_succ]
      refine seg_read ?v4 (by rfl) (by rfl) ?h4 ?_
      case h4 => intro W hW; go_simp; with_reducible rfl
      try simp only [Act.put, List.setIfInBounds_toArray, List.set_cons_zero, List.set_cons_succ]
      refine seg_read (.agg PS) (by rfl) (by rfl) (fun W hW => exec_load_ad 31 (.tmp 17) (by rfl) ⟨b', off' + j * 65 + 32, none⟩ (by rfl) PS hW.1 Try.underlying31 (by rfl) (by rw [HE.out.1]; exact id_info)) ?_
      try simp only [Act.put, List.setIfInBounds_toArray, List.set_cons_zero, List.set_cons_succ]
      refine seg_read (.agg KS) (by rfl) (by rfl) (fun W hW => exec_load_st 31 (.tmp 3) (by rfl) q (by rfl) KS (0, 0) hW.2 _ Try.underlying31 (by rfl) (by rw [HK.out.2.1]; exact id_info)) ?_
      try simp only [Act.put, List.setIfInBounds_toArray, List.set_cons_zero, List.set_cons_succ]
      refine seg_read ?v5 (by rfl) (by rfl) ?h5 ?_
      case h5 => intro W hW; have hqw := hqe W; go_simp; with_reducible rfl
      try simp only [Act.put, List.setIfInBounds_toArray, List.set_cons_zero, List.set_cons_succ]
      refine seg_nil ?_
      cases Z
      · go_wp2_with (first
          | (refine wpList_load_at (by rfl) 41 (.tmp 24) (by rfl) ⟨b', off' + j * 65, none⟩ (by rfl) ES _ HCE.out Try.underlying41 (by rfl) (by rw [HE.out.2]; exact e_size) ?_)
          | (refine wpList_lit1 (by rfl) 26 (.tmp 25) (by rfl) (by rfl) hlit ?_)
          | (at_builtin; refine wpList_app (by rfl) _ _ 26 (by rfl) (by rfl) (by rfl) hap ?_))
        have hne : ¬ e.2.1 = pk := of_decide_eq_false HJ.out.2.2.symm
        have hd : dropT (t.take (j + 1)) pk = dropT (t.take j) pk ++ [e] := by rw [ddtake_snoc' HJ.out.2.1, dropT_snoc, if_neg hne]
        exact ⟨⟨j + 1, by have := HJ.out.1; have := HH.out.2.1; omega, by simp, by rw [hd, show (dropT (t.take j) pk ++ [e]).length = (dropT (t.take j) pk).length + 1 by simp]; have h2 := HO.out.2.1; rw [show (dropT (t.take j) pk ++ [e]).length = (dropT (t.take j) pk).length + 1 by simp] at h2; exact h2, by
          have h3 := HO.out.2.2.1
          exact (below_drew h3).trans HO.out.2.2.2⟩, by have := HJ.out.1; simp only [intOf]; omega⟩
      · go_wp2
        have hye : e.2.1 = pk := of_decide_eq_true HJ.out.2.2.symm
        have hd : dropT (t.take (j + 1)) pk = dropT (t.take j) pk := by rw [ddtake_snoc' HJ.out.2.1, dropT_snoc, if_pos hye, List.append_nil]
        exact ⟨⟨j + 1, by have := HJ.out.1; have := HH.out.2.1; omega, by simp, by rw [hd]; exact ddkeepE HO.out.1 fun _ _ => rfl, below_drew HO.out.2.2.1⟩, by have := HJ.out.1; simp only [intOf]; omega⟩
    · obtain rfl : j = n := by have := HH.out.2.1; omega
      have hlt' : ¬ (j : Int) < (j : Int) := by omega
      have hfull : t.take j = t := List.take_of_length_le (by have := HH.out.2.1; omega)
      rw [hfull] at how hle ⊢
      obtain ⟨M, hM⟩ : ∃ M, M = (dropT t pk).length := ⟨_, rfl⟩
      rw [← hM] at hle ⊢
      have hsub : IntKind.i64.wrap ((j : Int) - (M : Int)) = ((j - M : Nat) : Int) := by rw [IntWalk.i64_in _ (by have := HH.out.2.2; omega)]; omega
      have HF : Hid (M = (dropT t pk).length ∧ wr.ownsRow w1.heap.size 41 65 (.slice Av (dropT t pk).length cv) (dropT t pk).length (eCs (dropT t pk)) ∧ Below w1.heap.size w1 wr) := Lib.hid ⟨hM, how, hbw⟩
      clear how hbw hle hj hlt hM hfull
      go_wp2
      go_ret2
      refine ⟨Av, cv, by rw [HF.out.1, HH.out.2.1]; rfl, ?_, ?_⟩
      · exact (Es.of_own HF.out.2.1 (fun e he => HH.out.1.each e (List.mem_filter.1 he).1) rfl).mono fun k _ hk => by have h1 := HSZ.out; have h2 := HQ.out; have hk' : w1.heap.size ≤ k := hk; omega
      · have h1 := H1.out.1
        rw [← HQ.out] at h1
        exact h1.trans (HF.out.2.2.mono (by have h1 := HSZ.out; have h2 := HQ.out; omega))
end Go.Proofs.Ytmmibldchfmleaa

/-! Dedup, the reference: parts of a list of objects, and one appended to another. -/
namespace Go.Proofs.Ytmmibldchfmleaa
open Go.RowKit Go.Maps Codec

theorem e_sizeOf (w : World) : (Go.sizeOf 41).run Try.prog w = .ok 65 w := by
  obtain ⟨i0, hi, _, hz1, _⟩ := info_parts e_info3
  simp [Go.sizeOf, typeInfo, hi, hz1, Sem.run_bind]
/-- l[:k] -/
theorem run_eto (A : Option Addr) (n c k : Nat) (hk : k ≤ c) (W : World) : (Instr.slice 26 (.slice A n c) none (some (.int .i64 (k : Int))) none).run Try.prog W = .ok (.slice A k c) W := by
  have ht' : Try.prog.underlying 26 = some (.slice (Try.prog.elem 26)) := by simp [Program.elem, Try.underlying26]
  have he : Try.prog.elem 26 = 41 := by simp [Program.elem, Try.underlying26]
  rw [run_slice_h W 26 A n c ht' .i64 (k : Int) (by omega) (by omega), he, e_sizeOf]
  have h0 : ∀ a : Addr, a.add 0 = a := fun a => by simp [Addr.add]
  cases A <;> simp [Result.andThen, sliced, h0]
/-- Where l[k:] lies. -/
def cutE (A : Option Addr) (c k : Nat) : Option Addr := if c = k then A else A.map (·.add (k * 65))
/-- l[k:] -/
theorem run_efrom (A : Option Addr) (n c k : Nat) (hk : k ≤ n) (W : World) : (Instr.slice 26 (.slice A n c) (some (.int .i64 (k : Int))) none none).run Try.prog W = .ok (.slice (cutE A c k) (n - k) (c - k)) W := by
  have ht' : Try.prog.underlying 26 = some (.slice (Try.prog.elem 26)) := by simp [Program.elem, Try.underlying26]
  have he : Try.prog.elem 26 = 41 := by simp [Program.elem, Try.underlying26]
  rw [run_slice_l W 26 A n c ht' .i64 (k : Int) (by omega) (by omega), he, e_sizeOf]
  simp [Result.andThen, sliced, cutE]
section
variable {w : World} {S : Nat → Prop} {A : Option Addr} {n c k : Nat} {t : Tv Pl}
theorem Es.to (h : Es w S A n c t) (hk : k ≤ n) : Es w S A k c (t.take k) :=
  ⟨by rw [List.length_take, h.len]; omega, fun e he => h.each e (List.mem_of_mem_take he), by have := h.cap; omega, h.max, fun h0 => by
    obtain ⟨b, off, rfl, hB, hb, hc⟩ := h.row (by omega)
    exact ⟨b, off, rfl, hB, hb, fun i e he => hc i e (by
      have hik : i < k := by have := (List.getElem?_eq_some_iff.1 he).1; rw [List.length_take] at this; omega
      rwa [List.getElem?_take_of_lt hik] at he)⟩⟩
theorem Es.from (h : Es w S A n c t) (hk : k ≤ n) : Es w S (cutE A c k) (n - k) (c - k) (t.drop k) :=
  ⟨by rw [List.length_drop, h.len], fun e he => h.each e (List.mem_of_mem_drop he), by have := h.cap; omega, by have := h.max; omega, fun h0 => by
    obtain ⟨b, off, rfl, hB, hb, hc⟩ := h.row (by omega)
    have := h.cap
    refine ⟨b, off + k * 65, ?_, hB, hb, fun i e he j v hv => ?_⟩
    · unfold cutE
      rw [if_neg (by omega)]
      simp [Addr.add]
    · rw [List.getElem?_drop] at he
      have h1 := hc (k + i) e he j v hv
      rwa [show off + k * 65 + (i * 65 + j) = off + ((k + i) * 65 + j) by omega]⟩
end
set_option maxRecDepth 100000 in
theorem eapp {W : World} {B : Nat} {v : Value} {t u : Tv Pl} (hown : W.ownsRow B 41 65 v t.length (eCs t)) {S : Nat → Prop} {A : Option Addr} {n c : Nat} (h : Es W S A n c u) (hb : t.length + n ≤ 1000000) (hB : B ≤ W.heap.size) (ty : TypeId) :
    ∃ A' c' W', (Builtin.append_ #[26, 26] ty #[v, .slice A n c]).run Try.prog W = .ok (.slice A' (t.length + n) c') W' ∧ W'.ownsRow B 41 65 (.slice A' (t.length + n) c') (t ++ u).length (eCs (t ++ u)) ∧ Below B W W' := by
  obtain ⟨i0, hi, hz0, hz1, hz2⟩ := info_parts e_info3
  have hul := h.len
  have hue := eCs_len h.each
  have happ : eCs (t ++ u) = eCs t ++ eCs u := by simp [eCs]
  rcases A with _ | ad
  · obtain rfl : n = 0 := by
      rcases Nat.eq_zero_or_pos n with h0 | h0
      · exact h0
      · obtain ⟨_, _, hA, _⟩ := h.row h0
        cases hA
    obtain rfl : u = [] := List.eq_nil_of_length_eq_zero hul
    have hv : ∃ A' c', v = .slice A' t.length c' ∧ t.length ≤ c' := by
      rcases hown.2 with ⟨rfl, h2⟩ | ⟨g, cap, cur, rfl, _, _, hn, _⟩
      · exact ⟨none, 0, by rw [h2], by omega⟩
      · exact ⟨_, cap, rfl, hn⟩
    obtain ⟨A', c', rfl, hcc⟩ := hv
    have hrz := run_append_zero (P := Try.prog) W 26 ty 41 i0 Try.underlying26 hi A' t.length c' c hcc
    refine ⟨A', c', W, ?_, ?_, Below.refl _ _⟩
    · exact hrz
    · rw [List.append_nil]
      exact hown
  · obtain ⟨v', W', hrun, r1, r2, _⟩ := run_append_own (P := Try.prog) W B 26 ty 41 i0 (.agg zEC) 65 72 Try.underlying26 hi hz0 hz1 hz2 (by unfold zEC eC zE u8s; rfl) (by decide) v t.length (eCs t) hown ad n c (eCs u) (by rw [hue, hul])
      (fun j x hj => by
        have hjl := (List.getElem?_eq_some_iff.1 hj).1
        rw [hue] at hjl
        obtain ⟨b, off, hA, hS, hlt, hc⟩ := h.row (by omega)
        injection hA with hA
        subst hA
        obtain ⟨i, r, hir, hr⟩ : ∃ i r, j = i * 65 + r ∧ r < 65 := ⟨j / 65, j % 65, by omega, Nat.mod_lt _ (by omega)⟩
        subst hir
        have hiu : i < u.length := by omega
        have he : u[i]? = some u[i] := List.getElem?_eq_getElem hiu
        have hel := eC_len (h.each _ (List.getElem_mem hiu)).1 (h.each _ (List.getElem_mem hiu)).2
        obtain ⟨y, hy⟩ : ∃ y, (eC u[i])[r]? = some y := ⟨_, List.getElem?_eq_getElem (l := eC u[i]) (i := r) (show r < (eC u[i]).length by omega)⟩
        have h1 := eCs_at h.each he hy
        rw [hj] at h1
        rw [add_plain, hc i _ he r y hy, h1])
      (fun x hx => by
        unfold eCs at hx
        obtain ⟨e, _, hx⟩ := List.mem_flatMap.1 hx
        exact List.all_eq_true.1 (eC_one e) x hx) (by unfold maxLen; omega) (by omega) hB
    obtain ⟨A', c', rfl⟩ := eslice r1
    exact ⟨A', c', W', hrun, by rw [List.length_append, hul, happ]; exact r1, (Below.refl B W).grown r2 hB fun k hk => (hown.lt k hk).1⟩
end Go.Proofs.Ytmmibldchfmleaa
