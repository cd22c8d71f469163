/-
  Words for slices of numbers: one that reads as a list ('Ints'); what a call owns is kept where other blocks turn.
  Dedup: Ids and Packs.
  Dedup: Packs.
  Dedup: Put.
-/
import Derived.Test.YtmmibldchfmleaaPk01
import Derived.Test.YtmmibldchfmleaaPk09
import Derived.Test.YtmmibldchfmleaaPk06
import Derived.Test.YtmmibldchfmleaaPk07
import Derived.Test.YtmmibldchfmleaaPk05
/-! Words for slices of numbers: one that reads as a list ('Ints'); what a call owns is kept where other blocks turn. -/
namespace Go.Proofs.Ytmmibldchfmleaa
open Go.RowKit

/-- THE SLICE VALUE '.slice A n c' OF NUMBERS OF KIND kd READS AS l; its row, if it has any, lies in a block of S. -/
structure Ints (kd : IntKind) (w : World) (S : Nat → Prop) (A : Option Addr) (n c : Nat) (l : List Int) : Prop where
  len : l.length = n
  cap : n ≤ c
  max : c ≤ maxLen
  wf : ∀ x ∈ l, (Lit.int kd x).wf = true
  row : 0 < n → ∃ b off, A = some ⟨b, off, none⟩ ∧ S b ∧ b < w.heap.size ∧ ∀ i, i < n → w.cell? ⟨b, off + i, none⟩ = some (.int kd (l[i]?.getD 0))

section
variable {kd : IntKind} {w w' : World} {S : Nat → Prop} {A : Option Addr} {n c : Nat} {l : List Int}
theorem Ints.below (h : Ints kd w S A n c l) (hb : Below w.heap.size w w') : Ints kd w' S A n c l :=
  ⟨h.len, h.cap, h.max, h.wf, fun h0 => by
    obtain ⟨b, off, hA, hB, hlt, hc⟩ := h.row h0
    exact ⟨b, off, hA, hB, Nat.lt_of_lt_of_le hlt hb.size, fun i hi => (hb.cell (p := ⟨b, off + i, none⟩) hlt).trans (hc i hi)⟩⟩
theorem Ints.mono {T : Nat → Prop} (h : Ints kd w S A n c l) (hB : ∀ b, b < w.heap.size → S b → T b) : Ints kd w T A n c l :=
  ⟨h.len, h.cap, h.max, h.wf, fun h0 => by
    obtain ⟨b, off, hA, hB', hlt, hc⟩ := h.row h0
    exact ⟨b, off, hA, hB b hlt hB', hlt, hc⟩⟩
theorem Ints.turned {T : Nat → Prop} (h : Ints kd w S A n c l) (ht : Turned T w w') (hd : ∀ b, b < w.heap.size → S b → ¬ T b) : Ints kd w' S A n c l :=
  ⟨h.len, h.cap, h.max, h.wf, fun h0 => by
    obtain ⟨b, off, hA, hB, hlt, hc⟩ := h.row h0
    exact ⟨b, off, hA, hB, Nat.lt_of_lt_of_le hlt ht.size, fun i hi => (World.cell?_of_block (w := w) (a := ⟨b, off + i, none⟩) (ht.block b hlt (hd b hlt hB))).trans (hc i hi)⟩⟩
theorem Ints.nil (kd : IntKind) (w : World) (S : Nat → Prop) (A : Option Addr) (c : Nat) (hc : c ≤ maxLen) : Ints kd w S A 0 c [] := ⟨rfl, Nat.zero_le _, hc, by simp, fun h => absurd h (by omega)⟩
end

/-- A row of numbers that came in. -/
theorem ints_of_row {kd : IntKind} {w : World} {x : Addr} {len cap : Nat} {zs : List Int} (hl : len ≤ cap) (hm : cap ≤ maxLen) (hz : zs.length = cap) (hcell : ∀ i, i < zs.length → w.cell? (x.add i) = some (.int kd (zs.getD i 0)))
    (hwz : ∀ n ∈ zs, (Lit.int kd n).wf = true) : Ints kd w (fun _ => True) (some x) len cap (zs.take len) := by
  refine ⟨by simp; omega, hl, hm, fun y hy => hwz y (List.mem_of_mem_take hy), fun h0 => ?_⟩
  obtain ⟨b, off, spot⟩ := x
  have hc0 := hcell 0 (by omega)
  have hspot : spot = none := by simpa [Addr.add] using World.cell?_spot hc0
  subst hspot
  have hlt := World.block_lt_of_cell? _ _ hc0
  rw [add_plain] at hlt
  refine ⟨b, off, rfl, trivial, hlt, fun i hi => ?_⟩
  have hc := hcell i (by omega)
  rw [add_plain] at hc
  rw [hc]
  simp [List.getD, List.getElem?_take_of_lt hi]

/-- What the call owns is kept where other blocks turn. -/
theorem own_turned {w w' : World} {T : Nat → Prop} {base : Nat} {e : TypeId} {size : Nat} {v : Value} {n : Nat} {xs : List Value} (h : w.ownsRow base e size v n xs) (ht : Turned T w w') (hd : ∀ g, v.ownBlock = some g → ¬ T g) : w'.ownsRow base e size v n xs := by
  obtain ⟨h1, h2⟩ := h
  refine ⟨h1, ?_⟩
  rcases h2 with h2 | ⟨g, cap, cur, rfl, hg, hhg, r⟩
  · exact .inl h2
  · exact .inr ⟨g, cap, cur, rfl, hg, (ht.block g (Array.getElem?_eq_some_iff.1 hhg).1 (hd g rfl)).trans hhg, r⟩

/-- Numbers as cells. -/
def nums (kd : IntKind) (l : List Int) : List Value := l.map (.int kd)
theorem nums_append (kd : IntKind) (l m : List Int) : nums kd (l ++ m) = nums kd l ++ nums kd m := by simp [nums]
theorem nums_length (kd : IntKind) (l : List Int) : (nums kd l).length = l.length := by simp [nums]

/-- A row of the call's own, its elements. -/
theorem own_row {w : World} {B : Nat} {e : TypeId} {v : Value} {n : Nat} {kd : IntKind} {l : List Int} (h : w.ownsRow B e 1 v n (nums kd l)) (h0 : 0 < n) : ∃ g c, v = .slice (some ⟨g, 0, none⟩) n c ∧ ∀ i, i < n → w.cell? ⟨g, i, none⟩ = some (.int kd (l[i]?.getD 0)) := by
  have hl : l.length = n := by have := h.1; rw [nums_length] at this; omega
  rcases h.2 with ⟨rfl, rfl⟩ | ⟨g, cap, cur, rfl, hb, hg, hn, hm, _, _⟩
  · omega
  · refine ⟨g, cap, rfl, fun i hi => ?_⟩
    have := h.cells (g := g) rfl i (.int kd (l[i]?.getD 0)) (by
      have hil : i < l.length := by omega
      simp [nums, List.getElem?_map, List.getElem?_eq_getElem hil])
    rw [add_plain] at this
    simpa using this
theorem own_slice {w : World} {B : Nat} {e : TypeId} {size : Nat} {v : Value} {n : Nat} {xs : List Value} (h : w.ownsRow B e size v n xs) : ∃ A c, v = .slice A n c := by
  rcases h.2 with ⟨rfl, rfl⟩ | ⟨g, cap, cur, rfl, _⟩
  · exact ⟨none, 0, rfl⟩
  · exact ⟨_, cap, rfl⟩
end Go.Proofs.Ytmmibldchfmleaa

/-! Dedup: Ids and Packs. -/
namespace Go.Proofs.Ytmmibldchfmleaa
open Go.RowKit Go.Maps

set_option maxHeartbeats 4000000 in
set_option maxRecDepth 100000 in
/-- Ids. -/
theorem ixids_any {w : World} {p b : Nat} {t : Tv Pl} (h : Ix w p b t) (hl : t.length ≤ 1000000) :
    Calls Try.prog 22 #[.pointer (some ⟨p, 0, none⟩)] w fun e w' => ∃ A c, e = .returned (.slice A t.length c) ∧ Ids w' (w.heap.size ≤ ·) A t.length c (t.map (·.1)) ∧ Below w.heap.size w w' := by
  have hcb := h.cell
  have hks := keysP_any (some b) w
  have hbl : Below w.heap.size w (w.alloc (.cells #[.map (some b)] 64)) := (Below.refl _ _).alloc (Nat.le_refl _) _
  have hso := sorted_ids (fun e he => h.map.key e he) h.map.srt hl 50 #[.pointer (some ⟨w.heap.size, 0, none⟩)] (fun k => k = w.heap.size ∨ k = b) (enters_of Try.func50 (by kernel_rfl) rfl) (w.alloc (.cells #[.map (some b)] 64))
    (keysP_iter (enc := encP) (t := t) w.heap.size b _ (heap_alloc_new w _) (h.map.below hbl)) (fun k hk => by have := h.map.lt; simp; omega)
  rw [show Value.func (.func 50) #[] #[.pointer (some ⟨w.heap.size, 0, none⟩)] = keysFnP w.heap.size from rfl] at hso
  generalize keysFnP w.heap.size = FN at hks hso
  obtain ⟨CM, hCM⟩ : ∃ CM, CM = Value.func (.func 29) #[] #[] := ⟨_, rfl⟩
  have HB := Lib.hid hbl
  clear h hbl
  go_enter Try.func22, Try.ntmps22
  go_wp2_with (first
    | (go_at_call 40; refine hks.mono ?_; clear hks; rintro _ _ ⟨rfl, rfl⟩)
    | (go_at_call 38; refine hso.mono ?_; clear hso; rintro _ w2 ⟨A, c, rfl, hids, hb2⟩))
  go_ret
  exact ⟨A, c, rfl, hids.mono fun k _ hk => by have h1 : (w.alloc (.cells #[.map (some b)] 64)).heap.size ≤ k := hk; simp at h1; show w.heap.size ≤ k; omega, HB.out.trans (hb2.mono (by simp))⟩
set_option maxHeartbeats 2000000 in
theorem ixids_nil (w : World) : Calls Try.prog 22 #[.pointer none] w fun e w' => e = .returned (.slice none 0 0) ∧ w' = w := by
  go_enter Try.func22, Try.ntmps22
  go_wp2
  go_ret
  exact ⟨rfl, rfl⟩
end Go.Proofs.Ytmmibldchfmleaa

/-! Dedup: Packs. -/
namespace Go.Proofs.Ytmmibldchfmleaa
open Go.RowKit Go.Maps

theorem exec_load_ad {P : Program} {E : Operand → Value} {o : Oper} {W : World} (ty : TypeId) (x : Operand) (ho : o.op = .load ty x) (ad : Addr) (hx : E x = .pointer (some ad)) (cells : Array Value) (hc : ∀ j v, cells[j]? = some v → W.cell? (ad.add j) = some v) {d : TypeDesc}
    (hu : P.underlying ty = some d) (hd : (match d with | .struct _ | .array _ _ => true | _ => false) = true) (hi : (P.info? ty).map (·.size) = some cells.size) : (execOp E o).run P W = .ok (.value (.agg cells)) W := by
  unfold execOp
  simp only [ho, hx, Instr.loadAt, Instr.sureAddr, Sem.run_bind, Sem.run_pure, Result.andThen_ok, run_loadVar_at W ad ty cells d hc hu hd hi]
def encN (n : Nat) : Value := .int .i64 (n : Int)
def cntI (h : Tv Nat) : List Int := h.map fun p => (p.2 : Int)
theorem dd_int_info : (Try.prog.info? 3).map (fun i => (i.zero, i.size, i.bytes)) = some (some (.int .i64 0), 1, 8) := by kernel_rfl
theorem zero_int : ∀ W, (zeroValue 3).run Try.prog W = .ok (encN 0) W := fun W => by kernel_rfl
/-- Numbers as cells. -/
def i64s (l : List Int) : List Value := l.map (Value.int .i64)
theorem make_ints (w : World) (N : Nat) (h : N ≤ 1000000) : (Instr.makeSlice 57 (.int .i64 (N : Int)) (.int .i64 (N : Int))).run Try.prog w = .ok (.slice (some ⟨w.heap.size, 0, none⟩) N N) (w.alloc (.cells (i64s (List.replicate N 0)).toArray 3)) := by
  obtain ⟨i0, hi, hz0, hz1, hz2⟩ := info_parts dd_int_info
  have hmk := run_make (P := Try.prog) (t := 57) (e := 3) w i0 (.int .i64 0) Try.underlying57 hi hz0 .i64 .i64 (N : Int) (N : Int) (by omega) (by omega) (by rw [hz2]; omega) (by omega)
  rw [hmk, hz1]
  have hm0 : madeCells (Value.int .i64 0).cells ((N : Int).toNat * 1) = (i64s (List.replicate N 0)).toArray := by
    apply Array.toList_inj.1
    rw [Int.toNat_natCast]
    simp only [madeCells, i64s, Nat.mul_one, Value.cells]
    apply List.ext_getElem
    · simp
    · intro i h1 h2
      simp [Nat.mod_one]
  rw [hm0]
  simp
/-- A row of numbers that is being written. -/
def cntC (l : List Int) (m j : Nat) : Array Value := (i64s (l.take j ++ List.replicate (m - j) 0)).toArray
theorem cntC_zero (l : List Int) (m : Nat) : cntC l m 0 = (i64s (List.replicate m 0)).toArray := by simp [cntC]
theorem cntC_step {l : List Int} {m j : Nat} (hl : l.length = m) (hj : j < m) : (cntC l m j).setIfInBounds j (.int .i64 (l[j]?.getD 0)) = cntC l m (j + 1) := by
  unfold cntC i64s
  apply Array.toList_inj.1
  simp only [Array.toList_setIfInBounds]
  have hr : List.replicate (m - j) (0 : Int) = 0 :: List.replicate (m - (j + 1)) 0 := by
    rw [show m - j = (m - (j + 1)) + 1 by omega, List.replicate_succ]
  have ht : l.take (j + 1) = l.take j ++ [l[j]?.getD 0] := by
    rw [List.take_succ_eq_append_getElem (by omega), List.getElem?_eq_getElem (by omega)]
    rfl
  have hlen : (l.take j).length = j := by simp; omega
  rw [hr, ht, List.map_append, List.set_append_right _ _ (by rw [List.length_map, hlen]; exact Nat.le_refl _), List.length_map, hlen, Nat.sub_self]
  simp
theorem cntC_ints {w : World} {S : Nat → Prop} {g : Nat} {l : List Int} {m : Nat} (h : w.heap[g]? = some (.cells (cntC l m m) 3 (0, 0))) (hl : l.length = m) (hS : S g) (hm : m ≤ 1000000) (hw : ∀ x ∈ l, (Lit.int .i64 x).wf = true) : Ints .i64 w S (some ⟨g, 0, none⟩) m m l :=
  ⟨hl, Nat.le_refl _, by unfold maxLen; omega, hw, fun _ => ⟨g, 0, rfl, hS, lt_of_cells h, fun i hi => by
    rw [cell_of_cells h, Nat.zero_add, cntC, List.getElem?_toArray, List.take_of_length_le (by omega), Nat.sub_self]
    simp [i64s, show i < l.length by omega]⟩⟩
/-- Between two rounds of the count. -/
structure PaS (w : World) (p b r h : Nat) (t : Tv Pl) (lf : List UInt8 → Bool) (H : Tv Nat) (W : World) : Prop where
  rg : Rgv encP W b r t lf
  kv : Kv encN W h H
  ct : Cnt (seenT t lf) H
  bl : Below w.heap.size w W
  lo : w.heap.size ≤ r ∧ w.heap.size ≤ h ∧ h ≠ r ∧ b < w.heap.size
theorem PaS.later {w W W' : World} {p b r h : Nat} {t : Tv Pl} {lf : List UInt8 → Bool} {H : Tv Nat} (hp : PaS w p b r h t lf H W) (hb : Below W.heap.size W W') : PaS w p b r h t lf H W' ∧ W'.rangeLeft b r = W.rangeLeft b r :=
  ⟨⟨(hp.rg.below hb).1, hp.kv.below hb, hp.ct, hp.bl.trans (hb.mono hp.bl.size), hp.lo⟩, (hp.rg.below hb).2⟩
/-- Between two rounds of the telling. -/
def PbR (w : World) (h g m : Nat) (H : Tv Nat) (Aw : Option Addr) (cw : Nat) (i : Value) (W : World) : Prop :=
  ∃ j : Nat, j ≤ m ∧ i = .int .i64 (j : Int) ∧ W.heap[g]? = some (.cells (cntC (cntI H) m j) 3 (0, 0)) ∧ Kv encN W h H ∧ Ids W (fun k => w.heap.size ≤ k ∧ k < g) Aw m cw (H.map (·.1)) ∧ Below w.heap.size w W
set_option maxHeartbeats 8000000 in
set_option maxRecDepth 100000 in
/-- Packs. -/
theorem ixpacks_any {w : World} {p b : Nat} {t : Tv Pl} (h : Ix w p b t) (hl : t.length ≤ 1000000) :
    Calls Try.prog 21 #[.pointer (some ⟨p, 0, none⟩)] w fun e w' => ∃ A c A2 c2, e = .returned (.tuple #[.slice A (packT t).length c, .slice A2 (packT t).length c2]) ∧
      Ids w' (w.heap.size ≤ ·) A (packT t).length c ((packT t).map (·.1)) ∧ Ints .i64 w' (w.heap.size ≤ ·) A2 (packT t).length c2 (cntI (packT t)) ∧ Below w.heap.size w w' := by
  have hmk : ∀ W, (Instr.makeMap 88 none).run Try.prog W = .ok (.map (some W.heap.size)) (W.alloc (.map #[] 0)) := fun W => rfl
  have hzi := zero_id
  obtain ⟨ZS, hZS⟩ : ∃ ZS, ZS = plC zPl := ⟨_, rfl⟩
  have hzp : ∀ W, (zeroValue 37).run Try.prog W = .ok (.agg ZS) W := fun W => by rw [hZS]; exact zero_pl W
  have HZS : Hid (ZS.size = 33) := Lib.hid (by rw [hZS, plC_size zPl_len])
  have hb1 : Below w.heap.size w (w.alloc (.map #[] 0)) := (Below.refl _ _).alloc (Nat.le_refl _) _
  have hi1 := h.below hb1
  have hcb := hi1.cell
  have hk1 := made_kv encN w
  have hkv := hi1.map
  have HH := Lib.hid (And.intro h hl)
  have H1 := Lib.hid (And.intro hb1 hk1)
  clear h hl hb1 hk1 hi1 hZS
  go_enter Try.func21, Try.ntmps21
  go_wp2_with (first
    | (at_range; refine wpList_range_kv _ rfl _ rfl Try.underlying64 rfl hkv ?_; intro w0 hrg0 hb0 hs0)
    | go_in)
  have H0 : Hid (PaS w p b (w.heap.size + 1) w.heap.size t (fun k => (getV t k).isSome) [] w0) := Lib.hid
    ⟨by have h1 : (w.alloc (.map #[] 0)).heap.size = w.heap.size + 1 := by simp
        rw [← h1]; exact hrg0, H1.out.2.below hb0, by rw [seenT_start fun e he => getV_isSome.2 (List.mem_map.2 ⟨e, he, rfl⟩)]; exact Cnt.nil, H1.out.1.trans (hb0.mono (by simp)), by omega, by omega, by omega, HH.out.1.map.lt⟩
  clear hrg0 hb0 hs0 hkv hcb H1
  simp only [World.size_alloc]
  obtain ⟨h, hh⟩ : ∃ h, h = w.heap.size := ⟨_, rfl⟩
  rw [show w.heap.size + 1 = h + 1 by rw [hh], show PaS w p b (h + 1) w.heap.size t (fun k => (getV t k).isSome) [] w0 = PaS w p b (h + 1) h t (fun k => (getV t k).isSome) [] w0 by rw [hh]] at H0
  rw [← hh]
  obtain ⟨r, hr⟩ : ∃ r, r = h + 1 := ⟨_, rfl⟩
  rw [← hr] at H0 ⊢
  have HR := Lib.hid (And.intro hr hh)
  clear hr hh
  go_frame
  go_loopw [6] (fun _ wr => ∃ lf H, PaS w p b r h t lf H wr) (fun _ wr => wr.rangeLeft b r)
  case atStart => exact ⟨_, _, H0.out⟩
  case round =>
    obtain ⟨lf, H, hps⟩ := hrel
    clear H0
    have HD := Lib.hid hps
    clear hps
    go_wp2_with (first
      | (at_next; refine wpList_next_kv _ rfl _ rfl rfl HD.out.rg ?_ ?_)
      | go_in)
    · intro hlf
      have hHe : H = packT t := by
        have h1 := HD.out.ct
        rw [seenT_end hlf] at h1
        exact h1.eq (packT_cnt _) fun _ => rfl
      obtain ⟨m, hm⟩ : ∃ m, m = (packT t).length := ⟨_, rfl⟩
      have hml : m ≤ 1000000 := by have h1 := packT_len t; have h2 := HH.out.2; omega
      have hks := keysN_any (some h) wr
      have hbl : Below wr.heap.size wr (wr.alloc (.cells #[.map (some h)] 88)) := (Below.refl _ _).alloc (Nat.le_refl _) _
      have hkp : ∀ e ∈ packT t, e.1.length = 32 := packT_keys HH.out.1.val
      have hso := sorted_ids hkp (packT_cnt t).1 (by omega) 49 #[.pointer (some ⟨wr.heap.size, 0, none⟩)] (fun k => k = wr.heap.size ∨ k = h) (enters_of Try.func49 (by kernel_rfl) rfl) (wr.alloc (.cells #[.map (some h)] 88))
        (keysN_iter (enc := encN) (t := packT t) wr.heap.size h _ (heap_alloc_new wr _) (hHe ▸ HD.out.kv.below hbl)) (fun k hk => by have := HD.out.kv.lt; simp; omega)
      rw [show Value.func (.func 49) #[] #[.pointer (some ⟨wr.heap.size, 0, none⟩)] = keysFnN wr.heap.size from rfl, ← hm] at hso
      have HM := Lib.hid (And.intro hm (And.intro hml hkp))
      have HW : Hid (Kv encN wr h (packT t) ∧ Below w.heap.size w wr ∧ (wr.alloc (.cells #[.map (some h)] 88)).heap.size = wr.heap.size + 1) := Lib.hid ⟨hHe ▸ HD.out.kv, HD.out.bl, by simp⟩
      generalize keysFnN wr.heap.size = FN at hks hso
      clear hlf hHe hm hml hbl hkp HD hzp HZS
      have hmi := fun W : World => make_ints W m HM.out.2.1
      go_upto_region 10 with (first
        | (go_at_call 39; refine hks.mono ?_; clear hks; rintro _ _ ⟨rfl, rfl⟩)
        | (go_at_call 38; refine hso.mono ?_; clear hso; rintro _ w3 ⟨Aw, cw, rfl, hids, hb3⟩; have H3 := Lib.hid (And.intro hids hb3); clear hids hb3))
      clear hmi
      obtain ⟨g, hg⟩ : ∃ g, g = w3.heap.size := ⟨_, rfl⟩
      have hw3 : Below w.heap.size w w3 := HW.out.2.1.trans ((((Below.refl _ _).alloc (Nat.le_refl _) _).trans (H3.out.2.mono (by rw [HW.out.2.2]; omega))).mono HW.out.2.1.size)
      have hk3 : Kv encN w3 h (packT t) := (HW.out.1.below ((Below.refl _ _).alloc (Nat.le_refl _) _)).below H3.out.2
      have hb5 : Below w3.heap.size w3 (w3.alloc (.cells (i64s (List.replicate m 0)).toArray 3)) := (Below.refl _ _).alloc (Nat.le_refl _) _
      have HG0 : Hid (PbR w h g m (packT t) Aw cw (.int .i64 0) (w3.alloc (.cells (i64s (List.replicate m 0)).toArray 3))) := Lib.hid
        ⟨0, Nat.zero_le _, rfl, by rw [cntC_zero, hg]; exact heap_alloc_new _ _, hk3.below hb5, (H3.out.1.mono fun k hk hh => ⟨by have h1 : (wr.alloc (.cells #[.map (some h)] 88)).heap.size ≤ k := hh; rw [HW.out.2.2] at h1; have h2 := HW.out.2.1.size; omega, by omega⟩).below hb5, hw3.trans (hb5.mono hw3.size)⟩
      have HX := Lib.hid (And.intro hg (And.intro hw3.size (show h < g by rw [hg]; exact hk3.lt)))
      rw [← hg]
      clear hg hw3 hk3 hb5 HW H3
      generalize w3.alloc (.cells (i64s (List.replicate m 0)).toArray 3) = w5 at HG0 ⊢
      go_wp2_with fail
      go_loopw [9, 10, 38] (fun _ _ i wr => PbR w h g m (packT t) Aw cw i wr) (fun _ _ i _ => m - (intOf i).toNat)
      case atStart => exact HG0.out
      case round =>
        obtain ⟨j, hj, rfl, hgc, hkv, hid, hbw⟩ := hrel
        clear HG0
        have HK := Lib.hid (And.intro hgc (And.intro hkv (And.intro hid hbw)))
        clear hgc hkv hid hbw
        by_cases hlt : j < m
        · obtain ⟨ab, ao, rfl, hab, hx32, hrowc⟩ := HK.out.2.2.1.at_ hlt
          obtain ⟨pj, hpj⟩ : ∃ pj, (packT t)[j]? = some pj := ⟨_, List.getElem?_eq_getElem (by have := HM.out.1; omega)⟩
          have hmem := List.mem_of_getElem? hpj
          have hpk := packT_pos hmem
          have hkey : ((packT t).map (·.1))[j]?.getD [] = pj.1 := by rw [List.getElem?_map, hpj]; rfl
          rw [hkey] at hrowc hx32
          obtain ⟨XS, hXS⟩ : ∃ XS, XS = row8 pj.1 := ⟨_, rfl⟩
          rw [← hXS] at hrowc
          have HXS : Hid (XS = row8 pj.1 ∧ XS.size = 32 ∧ XS.all (·.oneCell') = true ∧ pj.1.length = 32 ∧ getV (packT t) pj.1 = some pj.2 ∧ (packT t)[j]? = some pj) := Lib.hid ⟨hXS, by rw [hXS, row8_size, hx32], by rw [hXS]; exact row8_one _, hx32, getV_mem (packT_cnt t).1 hmem, hpj⟩
          have HRC := Lib.hid hrowc
          obtain ⟨w7, hw7⟩ : ∃ w7, w7 = (wr.alloc (.cells zerosId 31)).setRow wr.heap.size XS := ⟨_, rfl⟩
          have hz6 := heap_alloc_new wr (.cells zerosId 31)
          have hb7 : Below wr.heap.size wr w7 := by rw [hw7]; exact below_setRow ((Below.refl _ _).alloc (Nat.le_refl _) _) (Nat.le_refl _) _
          have H7 : Hid (w7.heap[wr.heap.size]? = some (.cells XS 31 (0, 0)) ∧ Below wr.heap.size wr w7) := Lib.hid ⟨by rw [hw7]; exact setRow_at hz6, hb7⟩
          have HZ := Lib.hid hz6
          have HW7 := Lib.hid hw7
          have hlk := ((HK.out.2.1.below hb7).look Try.underlying88 (zero_int _) hx32).2
          rw [← hXS, getV_mem (packT_cnt t).1 hmem, show (some pj.2).elim (encN 0) encN = .int .i64 (pj.2 : Int) from rfl] at hlk
          have hgc7 : w7.heap[g]? = some (.cells (cntC (cntI (packT t)) m j) 3 (0, 0)) := (hb7.block _ (lt_of_cells HK.out.1)).trans HK.out.1
          have hfz := free_of_cells hgc7 j
          have hcj : ∃ u, w7.cell? ⟨g, j, none⟩ = some u := by
            rw [cell_of_cells hgc7]
            have hsz : (cntC (cntI (packT t)) m j).size = m := by
              have h1 : (cntI (packT t)).length = m := by rw [HM.out.1]; simp [cntI]
              simp [cntC, i64s, h1]
              omega
            exact ⟨_, Array.getElem?_eq_getElem (by omega)⟩
          obtain ⟨cu, hcu⟩ := hcj
          have hadd := IntWalk.i64_in ((j : Int) + 1) (by have := HM.out.2.1; omega)
          have hlt' : (j : Int) < (m : Int) := by omega
          have HEND : Hid (PbR w h g m (packT t) (some ⟨ab, ao, none⟩) cw (.int .i64 ((j : Int) + 1)) (w7.setCell ⟨g, j, none⟩ (.int .i64 (pj.2 : Int)))) := Lib.hid (by
            have ht : Turned (· = g) w7 (w7.setCell ⟨g, j, none⟩ (.int .i64 (pj.2 : Int))) := Turned.set (S := (· = g)) (Turned.refl _ w7) rfl j _
            have hx := HX.out
            refine ⟨j + 1, by omega, by simp, ?_, (HK.out.2.1.below hb7).turned ht (by show ¬ h = g; omega), (HK.out.2.2.1.below hb7).turned ht (fun k _ h1 h2 => by have := h1.2; omega), ?_⟩
            · have h1 := set_of_cells hgc7 j (.int .i64 (pj.2 : Int))
              have h2 := cntC_step (l := cntI (packT t)) (m := m) (j := j) (by rw [HM.out.1]; simp [cntI]) hlt
              rw [show (cntI (packT t))[j]?.getD 0 = (pj.2 : Int) by rw [cntI, List.getElem?_map, hpj]; rfl] at h2
              rw [h2] at h1
              exact h1
            · exact HK.out.2.2.2.trans ⟨ht.os.trans hb7.os, ht.tape.trans hb7.tape, ht.output.trans hb7.output, Nat.le_trans hb7.size ht.size, fun i hi => (ht.block i (by have := hb7.size; have := HK.out.2.2.2.size; omega) (by show ¬ i = g; omega)).trans (hb7.block i (by have := HK.out.2.2.2.size; omega))⟩)
          clear hw7 hz6 hb7 hgc7 hXS hpj hmem hpk hkey hx32 hrowc
          go_wp2_with (first
            | (refine wpList_load_at (by rfl) 31 (.tmp 41) (by rfl) ⟨ab, ao + j * 32, none⟩ (by rfl) XS _ HRC.out Try.underlying31 (by rfl) (by rw [HXS.out.2.1]; exact id_info) ?_)
            | (refine wpList_store_row (by rfl) 31 (.tmp 10) (.tmp 42) (by rfl) wr.heap.size XS (by rfl) (by rfl) 31 zerosId HZ.out (by rw [HXS.out.2.1]; exact id_info) (by rw [HXS.out.2.1]; rfl) HXS.out.2.2.1 ?_
               rw [← HW7.out]; clear HZ HW7; generalize wr.heap.size = q10 at H7 ⊢)
            | (refine wpList_load_row (by rfl) 31 (.tmp 10) (by rfl) q10 (by rfl) 31 XS (0, 0) _ H7.out.1 Try.underlying31 (by rfl) (by rw [HXS.out.2.1]; exact id_info) ?_))
          exact ⟨HEND.out, by simp only [intOf]; omega⟩
        · obtain rfl : j = m := by omega
          have hnl : ¬ (j : Int) < (j : Int) := by omega
          have HE : Hid (Ids wr (w.heap.size ≤ ·) Aw j cw ((packT t).map (·.1)) ∧ Ints .i64 wr (w.heap.size ≤ ·) (some ⟨g, 0, none⟩) j j (cntI (packT t)) ∧ Below w.heap.size w wr) := Lib.hid
            ⟨HK.out.2.2.1.mono fun k _ hk => hk.1, cntC_ints HK.out.1 (by rw [HM.out.1]; simp [cntI]) (by have := HX.out; omega) HM.out.2.1 (fun x hx => by
              unfold cntI at hx
              obtain ⟨e, he, rfl⟩ := List.mem_map.1 hx
              have h1 := packT_pos he
              have h2 : cntP t e.1 ≤ t.length := List.countP_le_length
              have h3 := HH.out.2
              simp [Lit.wf, IntKind.min, IntKind.max, IntKind.signed, IntKind.bits]
              omega), HK.out.2.2.2⟩
          clear hlt HK
          go_wp2
          refine bodyPost_ret (results_tmp2 rfl _ _ _) rfl ?_
          exact ⟨Aw, cw, some ⟨g, 0, none⟩, j, by rw [← HM.out.1]; rfl, by rw [← HM.out.1]; exact HE.out.1, by rw [← HM.out.1]; exact HE.out.2.1, HE.out.2.2⟩
    · intro k v1 v2 w2 hk32 hlk hgv hrg2 hlt hg2 hs2 hen
      obtain ⟨v, hve⟩ : ∃ v : Pl, v = (v1, v2) := ⟨_, rfl⟩
      have hrg2 : Rgv encP w2 b r t (fun x => lf x && decide (x ≠ k)) := by simpa using hrg2
      rw [← hve] at hgv hen ⊢
      clear hve
      have hv32 : v.1.length = 32 := HH.out.1.val _ (getV_some hgv)
      obtain ⟨XS, hXS⟩ : ∃ XS, XS = row8 k := ⟨_, rfl⟩
      obtain ⟨VS, hVS⟩ : ∃ VS, VS = plC v := ⟨_, rfl⟩
      rw [← hXS, show encP v = .agg VS by rw [hVS]; rfl] at hen ⊢
      have HVS : Hid (VS = plC v ∧ VS.size = 33 ∧ VS.all (·.oneCell') = true ∧ v.1.length = 32) := Lib.hid ⟨hVS, by rw [hVS, plC_size hv32], by rw [hVS]; exact plC_one _, hv32⟩
      have hb2 : Turned (· = r) wr w2 := Turned.of_gr hg2 fun _ e => (Option.some.inj e).symm
      have hlo := HD.out.lo
      have H2 : Hid (Rgv encP w2 b r t (fun x => lf x && decide (x ≠ k)) ∧ Kv encN w2 h H ∧ Cnt (seenT t (fun x => lf x && decide (x ≠ k))) (incV H v.1) ∧ Below w.heap.size w w2 ∧ w2.rangeLeft b r < wr.rangeLeft b r) := Lib.hid
        ⟨hrg2, HD.out.kv.turned hb2 hlo.2.2.1, HD.out.ct.inc (cntP_seen HH.out.1.map.srt hgv hlk), HD.out.bl.trans ⟨hg2.os, hg2.tape, hg2.output, hg2.size, fun i hi => hg2.block i (Nat.lt_of_lt_of_le hi HD.out.bl.size) (fun e => by injection e with e; omega)⟩, hlt⟩
      have HLO := Lib.hid hlo
      have HCT := Lib.hid HD.out.ct
      clear hrg2 hlt hg2 hs2 hlk hgv hk32 hXS hVS hb2 HD hlo hv32
      have hz7 := heap_alloc_new w2 (.cells ZS 37)
      obtain ⟨w4, hw4⟩ : ∃ w4, w4 = (w2.alloc (.cells ZS 37)).setRow w2.heap.size VS := ⟨_, rfl⟩
      have H4 : Hid (w4.heap[w2.heap.size]? = some (.cells VS 37 (0, 0)) ∧ Below w2.heap.size w2 w4) := Lib.hid ⟨by rw [hw4]; exact setRow_at hz7, by rw [hw4]; exact below_setRow ((Below.refl _ _).alloc (Nat.le_refl _) _) (Nat.le_refl _) _⟩
      have HZ := Lib.hid hz7
      have HW4 := Lib.hid hw4
      clear hz7 hw4
      go_upto_region 7 with (refine wpList_store_row (by rfl) 37 (.tmp 6) (.tmp 22) (by rfl) w2.heap.size VS (by rfl) (by rfl) 37 ZS HZ.out (by rw [HVS.out.2.1]; exact pl_info) (by rw [HVS.out.2.1, HZS.out]) HVS.out.2.2.1 ?_)
      rw [← HW4.out]
      clear HZ HW4 hen hzi hzp
      have hrg4 := H2.out.1.below H4.out.2
      have H5 : Hid (Rgv encP w4 b r t (fun x => lf x && decide (x ≠ k)) ∧ Kv encN w4 h H ∧ Below w.heap.size w w4 ∧ w4.rangeLeft b r < wr.rangeLeft b r ∧ Cnt (seenT t (fun x => lf x && decide (x ≠ k))) (incV H v.1)) := Lib.hid
        ⟨hrg4.1, H2.out.2.1.below H4.out.2, H2.out.2.2.2.1.trans (H4.out.2.mono H2.out.2.2.2.1.size), by rw [hrg4.2]; exact H2.out.2.2.2.2, H2.out.2.2.1⟩
      clear hrg4 H2
      obtain ⟨PS, hPS⟩ : ∃ PS, PS = row8 v.1 := ⟨_, rfl⟩
      have HP : Hid (PS.size = 32 ∧ (∀ j u, PS[j]? = some u → w4.cell? ((⟨w2.heap.size, 0, none⟩ : Addr).add j) = some u) ∧ PS = row8 v.1) := Lib.hid ⟨by rw [hPS, row8_size, HVS.out.2.2.2], pl_pack HVS.out.1 H4.out.1 HVS.out.2.2.2 hPS, hPS⟩
      have hHe : H = packT (seenT t lf) := HCT.out.eq (packT_cnt _) fun _ => rfl
      have hse : (seenT t lf).length ≤ t.length := List.length_filter_le _ _
      have hHl : H.length ≤ 1000000 := by
        have h1 := packT_len (seenT t lf)
        have h2 := HH.out.2
        rw [hHe]
        omega
      obtain ⟨c, hc⟩ : ∃ c, c = (getV H v.1).getD 0 := ⟨_, rfl⟩
      have hkd : Kv encN w4.drew h H := H5.out.2.1.below ⟨rfl, rfl, rfl, Nat.le_refl _, fun _ _ => rfl⟩
      obtain ⟨v0, st, w5, hme, hmt5, hlk5, w6, hes, hkv6, hmt6⟩ := hkd.entry Try.underlying88 zero_int HVS.out.2.2.2 (by omega) (c + 1)
      have hlk4 := (hkd.look Try.underlying88 (zero_int _) HVS.out.2.2.2).2
      rw [show (getV H v.1).elim (encN 0) encN = .int .i64 (c : Int) by rw [hc]; cases getV H v.1 <;> rfl] at hlk4
      rw [← hc, show encN c = .int .i64 (c : Int) from rfl] at hlk5
      rw [← hPS] at hme hlk4 hlk5
      generalize w2.heap.size = q6 at H4 HP ⊢
      rw [show encN (c + 1) = .int .i64 ((c : Int) + 1) by simp [encN]] at hes
      have hcl : c ≤ 1000000 := by
        rw [hc, HCT.out.2]
        have h1 : cntP (seenT t lf) v.1 ≤ (seenT t lf).length := List.countP_le_length
        have h2 := HH.out.2
        by_cases h0 : cntP (seenT t lf) v.1 = 0
        · simp [h0]
        · simp only [h0, if_false, Option.getD_some]
          omega
      have hadd := IntWalk.i64_in ((c : Int) + 1) (by omega)
      have HC := Lib.hid hc
      clear hc hPS hkd hHl hHe hse hcl
      have HE : Hid (Kv encN w6 h (putV H v.1 (c + 1)) ∧ w4.drew.mapTurned w6 h) := Lib.hid ⟨hkv6, hmt6⟩
      have hd6 : ∀ W, w4.drew.mapTurned W h → W.heap[q6]? = some (.cells VS 37 (0, 0)) := fun W hm => by
        refine ((mapTurned_turnedk hm).block _ (lt_of_cells H4.out.1) ?_).trans H4.out.1
        rintro rfl
        obtain ⟨es, clock, hb⟩ := H5.out.2.1.isMap
        have h1 := H4.out.1
        rw [hb] at h1
        cases h1
      have hC5 := hd6 _ hmt5
      have hC6 := hd6 _ hmt6
      have hC4 : w4.drew.heap[q6]? = some (.cells VS 37 (0, 0)) := H4.out.1
      clear hkv6 hmt6 hmt5 hd6
      have HEND : Hid ((∃ lf H, PaS w p b r h t lf H w6) ∧ w6.rangeLeft b r < wr.rangeLeft b r) := Lib.hid (by
        have ht6 : Turned (· = h) w4 w6 := (Turned.of_below (S := (· = h)) (show Below w4.heap.size w4 w4.drew from ⟨rfl, rfl, rfl, Nat.le_refl _, fun _ _ => rfl⟩)).trans (mapTurned_turnedk HE.out.2) fun _ _ h => h
        have hk := H5.out.1.kept (w' := w6) (ht6.block _ H5.out.1.kv.lt (by have := HLO.out; show ¬ b = h; omega)) (ht6.block _ H5.out.1.lt (by have := HLO.out; show ¬ r = h; omega))
        refine ⟨⟨_, _, hk.1, HE.out.1, ?_, H5.out.2.2.1.trans ⟨ht6.os, ht6.tape, ht6.output, ht6.size, fun i hi => ht6.block i (Nat.lt_of_lt_of_le hi H5.out.2.2.1.size) (by have := HLO.out; show ¬ i = h; omega)⟩, HLO.out⟩, by rw [hk.2]; exact H5.out.2.2.2.1⟩
        have h1 := H5.out.2.2.2.2
        unfold incV at h1
        rw [← HC.out] at h1
        exact h1)
      refine wp_region_tree (fun W => W.heap[q6]? = some (.cells VS 37 (0, 0))) (.two [0, 1, 2] 3 (.one [4] 5 (.one [6] 7 (.last []))) 5 (.one [6] 3 (.one [4] 7 (.last [])))) (by kernel_rfl) (by kernel_rfl) (fun _ _ d _ _ h => by cases d <;> exact h) hC4 ?_
      refine tree_two ?_
      refine seg_read ?v1 (by rfl) (by rfl) ?h1 ?_
      case h1 => intro W hW; go_simp; with_reducible rfl
      try simp only [Act.put, List.setIfInBounds_toArray, List.set_cons_zero, List.set_cons_succ]
      refine seg_read ?v2 (by rfl) (by rfl) ?h2 ?_
      case h2 => intro W hW; go_simp; with_reducible rfl
      try simp only [Act.put, List.setIfInBounds_toArray, List.set_cons_zero, List.set_cons_succ]
      refine seg_read (.agg PS) (by rfl) (by rfl) (fun W hW => exec_load_ad 31 (.tmp 24) (by rfl) ⟨q6, 0, none⟩ (by rfl) PS (pl_pack HVS.out.1 hW HVS.out.2.2.2 HP.out.2.2) Try.underlying31 (by rfl) (by rw [HP.out.1]; exact id_info)) ?_
      try simp only [Act.put, List.setIfInBounds_toArray, List.set_cons_zero, List.set_cons_succ]
      refine seg_nil ?_
      refine And.intro ?first ?second
      case first =>
        refine eff_step (by rfl) (fun K hK => ?_)
        go_simp
        refine hK _ _ ⟨_, hC4, fun _ h => h, ?_⟩
        clear hK K
        try simp only [Act.put, List.setIfInBounds_toArray, List.set_cons_zero, List.set_cons_succ]
        refine tree_one ?_
        refine seg_read ?v3 (by rfl) (by rfl) ?h3 ?_
        case h3 => intro W hW; go_simp; with_reducible rfl
        try simp only [Act.put, List.setIfInBounds_toArray, List.set_cons_zero, List.set_cons_succ]
        refine seg_nil ?_
        refine eff_step (by rfl) (fun K hK => ?_)
        go_simp
        refine hK _ _ ⟨_, hC5, fun _ h => h, ?_⟩
        clear hK K
        try simp only [Act.put, List.setIfInBounds_toArray, List.set_cons_zero, List.set_cons_succ]
        refine tree_one ?_
        refine seg_read ?v4 (by rfl) (by rfl) ?h4 ?_
        case h4 => intro W hW; go_simp; with_reducible rfl
        try simp only [Act.put, List.setIfInBounds_toArray, List.set_cons_zero, List.set_cons_succ]
        refine seg_nil ?_
        refine eff_step (by rfl) (fun K hK => ?_)
        go_simp
        refine hK _ _ ⟨_, hC6, fun _ h => h, ?_⟩
        clear hK K
        refine tree_last ?_
        refine seg_nil ?_
        try simp only [Act.put]
        go_wp2_with fail
        exact HEND.out
      case second =>
        refine eff_step (by rfl) (fun K hK => ?_)
        go_simp
        refine hK _ _ ⟨_, hC5, fun _ h => h, ?_⟩
        clear hK K
        try simp only [Act.put, List.setIfInBounds_toArray, List.set_cons_zero, List.set_cons_succ]
        refine tree_one ?_
        refine seg_read ?v5 (by rfl) (by rfl) ?h5 ?_
        case h5 => intro W hW; go_simp; with_reducible rfl
        try simp only [Act.put, List.setIfInBounds_toArray, List.set_cons_zero, List.set_cons_succ]
        refine seg_nil ?_
        refine eff_step (by rfl) (fun K hK => ?_)
        go_simp
        refine hK _ _ ⟨_, hC5, fun _ h => h, ?_⟩
        clear hK K
        try simp only [Act.put, List.setIfInBounds_toArray, List.set_cons_zero, List.set_cons_succ]
        refine tree_one ?_
        refine seg_read ?v6 (by rfl) (by rfl) ?h6 ?_
        case h6 => intro W hW; go_simp; with_reducible rfl
        try simp only [Act.put, List.setIfInBounds_toArray, List.set_cons_zero, List.set_cons_succ]
        refine seg_nil ?_
        refine eff_step (by rfl) (fun K hK => ?_)
        go_simp
        refine hK _ _ ⟨_, hC6, fun _ h => h, ?_⟩
        clear hK K
        refine tree_last ?_
        refine seg_nil ?_
        try simp only [Act.put]
        go_wp2_with fail
        exact HEND.out
end Go.Proofs.Ytmmibldchfmleaa

/-! Dedup: Put. -/
namespace Go.Proofs.Ytmmibldchfmleaa
open Go.RowKit Go.Maps Codec

theorem plB_len {e : List UInt8 × Pl} (h1 : e.1.length = 32) (h2 : e.2.1.length = 32) (h3 : mayN e.2.2 = true) : (plB e).length ≤ 74 := by
  obtain ⟨m, hm, hm2⟩ := mayN_nat h3
  have := put_length_64 (x := e.2.2.toNat) (by omega)
  simp only [plB, List.length_append]
  omega
theorem plsB_len : ∀ {t : Tv Pl}, OkT t → (plsB t).length ≤ 74 * t.length
  | [], _ => by simp [plsB]
  | e :: t, h => by
    have h1 := plsB_len (t := t) fun x hx => h x (by simp [hx])
    obtain ⟨h2, h3, h4⟩ := h e (by simp)
    have h5 := plB_len h2 h3 h4
    simp only [plsB, List.map_cons, List.flatten_cons, List.length_append, List.length_cons] at h1 ⊢
    omega
theorem OkT.take {t : Tv Pl} (h : OkT t) (j : Nat) : OkT (t.take j) := fun e he => h e (List.mem_of_mem_take he)
/-- The writer's blocks: new ones, but for those of the ids. -/
def dArF (B lo hi k : Nat) : Prop := B ≤ k ∧ ¬ (lo ≤ k ∧ k < hi)
def PtR (w w4 : World) (lo pw : Nat) (pre : List UInt8) (t : Tv Pl) (i : Value) (wr : World) : Prop :=
  ∃ j : Nat, j ≤ t.length ∧ i = .int .i64 (j : Int) ∧ Wr wr (dArF w.heap.size lo w4.heap.size) pw (pre ++ plsB (t.take j)) ∧ Turned (dArF w.heap.size lo w4.heap.size) w4 wr
theorem pl_byt {w : World} {g : Nat} {v : Pl} {VS : Array Value} (hV : VS = plC v) (h : w.heap[g]? = some (.cells VS 37 (0, 0))) (hv : v.1.length = 32) : Byt w (· = g) (some ⟨g, 0, none⟩) 32 32 v.1 :=
  ⟨hv, Nat.le_refl _, by decide, fun _ => ⟨g, 0, rfl, rfl, lt_of_cells h, fun i hi => by
    subst hV
    rw [cell_of_cells h, Nat.zero_add, plC_pack hv i hi, row8, List.getElem?_toArray]
    simp [u8s, show i < v.1.length by omega]⟩⟩
theorem id_byt {w : World} {g : Nat} {l : List UInt8} {XS : Array Value} (hX : XS = row8 l) (h : w.heap[g]? = some (.cells XS 31 (0, 0))) (hl : l.length = 32) : Byt w (· = g) (some ⟨g, 0, none⟩) 32 32 l :=
  ⟨hl, Nat.le_refl _, by decide, fun _ => ⟨g, 0, rfl, rfl, lt_of_cells h, fun i hi => by
    subst hX
    rw [cell_of_cells h, Nat.zero_add, row8, List.getElem?_toArray]
    simp [u8s, show i < l.length by omega]⟩⟩
set_option maxHeartbeats 2000000 in
theorem ixput_nil (w : World) : Calls Try.prog 19 #[.pointer none] w fun e w' => e = .returned (.slice none 0 0) ∧ w' = w := by
  go_enter Try.func19, Try.ntmps19
  go_wp2
  go_ret
  exact ⟨rfl, rfl⟩
set_option maxHeartbeats 8000000 in
set_option maxRecDepth 100000 in
/-- Put. -/
theorem ixput_any {w : World} {p b : Nat} {t : Tv Pl} (h : Ix w p b t) (hl : t.length ≤ 100000) (hok : OkT t) :
    Calls Try.prog 19 #[.pointer (some ⟨p, 0, none⟩)] w fun e w' => ∃ A c, e = .returned (.slice A (ixB t).length c) ∧ Byt w' (w.heap.size ≤ ·) A (ixB t).length c (ixB t) ∧ Below w.heap.size w w' := by
  have hzi := zero_id
  obtain ⟨ZS, hZS⟩ : ∃ ZS, ZS = plC zPl := ⟨_, rfl⟩
  have hzp : ∀ W, (zeroValue 37).run Try.prog W = .ok (.agg ZS) W := fun W => by rw [hZS]; exact zero_pl W
  have HZS : Hid (ZS.size = 33) := Lib.hid (by rw [hZS, plC_size zPl_len])
  have hnw := newWriter w
  obtain ⟨n, hn⟩ : ∃ n, n = t.length := ⟨_, rfl⟩
  have hcv := IntWalk.u64_in (n : Int) (by omega)
  have HL := Lib.hid (And.intro h (And.intro hl hok))
  have HN := Lib.hid hn
  clear h hl hn hok hZS
  go_enter Try.func19, Try.ntmps19
  go_upto_region 4 with (go_at_call 31; refine hnw.mono ?_; clear hnw; rintro _ w1 ⟨pw, rfl, hw1, hb1⟩)
  have hi1 := HL.out.1.below hb1
  have hcb := hi1.cell
  have hlen := hi1.map.len Try.underlying64 3
  rw [← HN.out] at hlen
  have h2 := wuint hw1 (x := n) (by have := HN.out; have := HL.out.2.1; omega) (by simp)
  have HB1 := Lib.hid hb1
  clear hw1 hb1 hi1
  go_upto_region 5 with (go_at_call 32; refine h2.mono ?_; clear h2; rintro _ w3 hp2; obtain ⟨rfl, hw2, ht2⟩ := hp2)
  have hp3 := Put.from (e := .returned (.tuple #[])) (show Put w1 (w.heap.size ≤ ·) pw ([] ++ put n) _ w3 from ⟨rfl, hw2, ht2⟩) HB1.out.size
  obtain ⟨pre, hpre⟩ : ∃ pre, pre = put n := ⟨_, rfl⟩
  have H3 := Lib.hid (And.intro (show Wr w3 (w.heap.size ≤ ·) pw pre by rw [hpre]; simpa using hp3.1) (HB1.out.trans hp3.2))
  have HPRE : Hid (pre = put n ∧ pre.length ≤ 10) := Lib.hid ⟨hpre, by rw [hpre]; exact put_length_64 (by have := HN.out; have := HL.out.2.1; omega)⟩
  have hss := ixids_any (HL.out.1.below H3.out.2) (by have := HL.out.2.1; omega)
  rw [← HN.out] at hss
  clear hw2 ht2 hp3 HB1 hpre hlen hcb hcv
  go_wp2_with (go_at_call 22; refine hss.mono ?_; clear hss; rintro _ w4 ⟨A4, c4, rfl, hs4, hb4⟩; have H4 := Lib.hid (And.intro hs4 hb4); clear hs4 hb4)
  have HST := Lib.hid (H4.out.1.mono (T := fun k => w3.heap.size ≤ k ∧ k < w4.heap.size) fun k hk h => ⟨h, hk⟩)
  have H0 : Hid (PtR w w4 w3.heap.size pw pre t (.int .i64 0) w4) := Lib.hid ⟨0, Nat.zero_le _, rfl, by
    have h1 := (H3.out.1.mono (T := dArF w.heap.size w3.heap.size w4.heap.size) fun k hk h => ⟨h, by omega⟩).turned (T := fun _ => False) (Turned.of_below H4.out.2) fun _ _ _ h => h
    simpa [plsB] using h1, Turned.refl _ _⟩
  have HB := Lib.hid (And.intro H3.out.2 (And.intro H4.out.2 (show w.heap.size ≤ w3.heap.size from H3.out.2.size)))
  have HIX := Lib.hid (And.intro (HL.out.1.below (H3.out.2.trans (H4.out.2.mono H3.out.2.size))) (And.intro (lt_of_cells HL.out.1.box) HL.out.1.map.lt))
  clear H3 H4
  go_loopw [5, 6, 21] (fun _ _ i wr => PtR w w4 w3.heap.size pw pre t i wr) (fun _ _ i _ => n - (intOf i).toNat)
  case atStart => exact H0.out
  case round =>
    obtain ⟨j, hj, rfl, hwr, htn⟩ := hrel
    clear H0
    have HK := Lib.hid (And.intro hwr htn)
    clear hwr htn
    by_cases hlt : j < n
    · have hlt' : (j : Int) < (n : Int) := by omega
      have hjt : j < t.length := by have := HN.out; omega
      obtain ⟨x, hx⟩ : ∃ x, t[j]? = some x := ⟨_, List.getElem?_eq_getElem hjt⟩
      have hxm := List.mem_of_getElem? hx
      obtain ⟨hx1, hx2, hx3⟩ := HL.out.2.2 x hxm
      have hgx := getV_mem HL.out.1.map.srt hxm
      have HIR := Lib.hid (HIX.out.1.turned HK.out.2 (fun h => by have := h.1; have := HIX.out.2; omega) (fun h => by have := h.1; have := HIX.out.2; omega))
      have hidr := HST.out.turned HK.out.2 fun k _ h1 h2 => h2.2 h1
      obtain ⟨ab, ao, rfl, hab, _, hrowc⟩ := hidr.at_ hlt
      have hkey : ((t.map (·.1))[j]?.getD []) = x.1 := by rw [List.getElem?_map, hx]; rfl
      rw [hkey] at hrowc
      obtain ⟨XS, hXS⟩ : ∃ XS, XS = row8 x.1 := ⟨_, rfl⟩
      obtain ⟨FS, hFS⟩ : ∃ FS, FS = plC x.2 := ⟨_, rfl⟩
      rw [← hXS] at hrowc
      have HX : Hid (XS = row8 x.1 ∧ XS.size = 32 ∧ XS.all (·.oneCell') = true ∧ x.1.length = 32 ∧ getV t x.1 = some x.2) := Lib.hid ⟨hXS, by rw [hXS, row8_size, hx1], by rw [hXS]; exact row8_one _, hx1, hgx⟩
      have HF : Hid (FS = plC x.2 ∧ FS.size = 33 ∧ FS.all (·.oneCell') = true ∧ x.2.1.length = 32 ∧ mayN x.2.2 = true ∧ t[j]? = some x) := Lib.hid ⟨hFS, by rw [hFS, plC_size hx2], by rw [hFS]; exact plC_one _, hx2, hx3, hx⟩
      have HRC := Lib.hid hrowc
      have hadd := IntWalk.i64_in ((j : Int) + 1) (by have := HN.out; have := HL.out.2.1; omega)
      obtain ⟨w7, hw7⟩ : ∃ w7, w7 = (wr.alloc (.cells zerosId 31)).setRow wr.heap.size XS := ⟨_, rfl⟩
      have hz5 := heap_alloc_new wr (.cells zerosId 31)
      have H7 : Hid (w7.heap[wr.heap.size]? = some (.cells XS 31 (0, 0)) ∧ Below wr.heap.size wr w7) := Lib.hid ⟨by rw [hw7]; exact setRow_at hz5, by rw [hw7]; exact below_setRow ((Below.refl _ _).alloc (Nat.le_refl _) _) (Nat.le_refl _) _⟩
      have HZ := Lib.hid hz5
      have HW7 := Lib.hid hw7
      clear hz5 hw7 hXS hFS hx hxm hx1 hx2 hx3 hgx hidr hrowc hkey hjt
      obtain ⟨q5, hq5⟩ : ∃ q5, q5 = wr.heap.size := ⟨_, rfl⟩
      have HQ5 := Lib.hid hq5
      go_upto_region 8 with (first
        | (refine wpList_load_at (by rfl) 31 (.tmp 23) (by rfl) ⟨ab, ao + j * 32, none⟩ (by rfl) XS _ HRC.out Try.underlying31 (by rfl) (by rw [HX.out.2.1]; exact id_info) ?_)
        | (refine wpList_store_row (by rfl) 31 (.tmp 5) (.tmp 24) (by rfl) wr.heap.size XS (by rfl) (by rfl) 31 zerosId HZ.out (by rw [HX.out.2.1]; exact id_info) (by rw [HX.out.2.1]; rfl) HX.out.2.2.1 ?_))
      rw [← HW7.out, ← hq5]
      clear HZ HW7 HRC
      have hC : (fun W : World => Ix W p b t ∧ W.heap[q5]? = some (.cells XS 31 (0, 0))) w7.drew := ⟨(HIR.out.below H7.out.2).below ⟨rfl, rfl, rfl, Nat.le_refl _, fun _ _ => rfl⟩, by rw [hq5]; exact H7.out.1⟩
      clear hq5
      refine wp_region_plan (fun W : World => Ix W p b t ∧ W.heap[q5]? = some (.cells XS 31 (0, 0))) [([0, 1, 2, 3, 4, 5], 6), ([], 7)] [] (by kernel_rfl) (by kernel_rfl) (fun _ _ d _ _ h => by cases d <;> exact h) hC ?_
      refine plan_eff ?_
      refine seg_read ?v23 (by rfl) (by rfl) ?h23 ?_
      case h23 => intro W hW; go_simp; with_reducible rfl
      try simp only [Act.put, List.setIfInBounds_toArray, List.set_cons_zero, List.set_cons_succ]
      refine seg_read ?v24 (by rfl) (by rfl) ?h24 ?_
      case h24 => intro W hW; go_simp; with_reducible rfl
      try simp only [Act.put, List.setIfInBounds_toArray, List.set_cons_zero, List.set_cons_succ]
      refine seg_read ?v25 (by rfl) (by rfl) ?h25 ?_
      case h25 => intro W hW; go_simp; with_reducible rfl
      try simp only [Act.put, List.setIfInBounds_toArray, List.set_cons_zero, List.set_cons_succ]
      refine seg_read ?v26 (by rfl) (by rfl) ?h26 ?_
      case h26 => intro W hW; have hcb := hW.1.cell; go_simp; with_reducible rfl
      try simp only [Act.put, List.setIfInBounds_toArray, List.set_cons_zero, List.set_cons_succ]
      refine seg_read (.agg XS) (by rfl) (by rfl) (fun W hW => exec_load_st 31 (.tmp 5) (by rfl) q5 (by rfl) XS (0, 0) hW.2 _ Try.underlying31 (by rfl) (by rw [HX.out.2.1]; exact id_info)) ?_
      try simp only [Act.put, List.setIfInBounds_toArray, List.set_cons_zero, List.set_cons_succ]
      refine seg_read ?v27 (by rfl) (by rfl) ?h27 ?_
      case h27 => intro W hW; have hlk := (hW.1.map.look Try.underlying64 (zero_pl W) HX.out.2.2.2.1).2; rw [← HX.out.1, HX.out.2.2.2.2, show (some x.2).elim (encP zPl) encP = .agg FS by rw [HF.out.1]; rfl] at hlk; go_simp; with_reducible rfl
      try simp only [Act.put, List.setIfInBounds_toArray, List.set_cons_zero, List.set_cons_succ]
      refine seg_nil ?_
      refine eff_alloc (by rfl) (by rfl) 37 (by rfl) (hzp _) ?_
      have hA : (fun W : World => Ix W p b t ∧ W.heap[q5]? = some (.cells XS 31 (0, 0))) (w7.drew.alloc (.cells ZS 37)) := by
        have hbA : Below w7.drew.heap.size w7.drew (w7.drew.alloc (.cells ZS 37)) := (Below.refl _ _).alloc (Nat.le_refl _) _
        exact ⟨hC.1.below hbA, (hbA.block _ (lt_of_cells hC.2)).trans hC.2⟩
      refine ⟨_, hA, fun _ h => h, ?_⟩
      try simp only [Act.put, List.setIfInBounds_toArray, List.set_cons_zero, List.set_cons_succ]
      refine plan_eff ?_
      refine seg_nil ?_
      refine eff_store_row (by rfl) (by rfl) 37 (.tmp 6) (.tmp 30) (by rfl) w7.drew.heap.size FS (by rfl) (by rfl) 37 ZS (heap_alloc_new _ _) (by rw [HF.out.2.1]; exact pl_info) (by rw [HF.out.2.1, HZS.out]) HF.out.2.2.1 ?_
      have hS8 : (fun W : World => Ix W p b t ∧ W.heap[q5]? = some (.cells XS 31 (0, 0))) ((w7.drew.alloc (.cells ZS 37)).setRow w7.drew.heap.size FS) := by
        have hbS : Below w7.drew.heap.size w7.drew ((w7.drew.alloc (.cells ZS 37)).setRow w7.drew.heap.size FS) := below_setRow ((Below.refl _ _).alloc (Nat.le_refl _) _) (Nat.le_refl _) _
        exact ⟨hC.1.below hbS, (hbS.block _ (lt_of_cells hC.2)).trans hC.2⟩
      refine ⟨_, hS8, fun _ h => h, ?_⟩
      try simp only [Act.put]
      refine plan_last ?_
      refine seg_nil ?_
      have hq6b : Below w7.heap.size w7 ((w7.drew.alloc (.cells ZS 37)).setRow w7.drew.heap.size FS) := below_setRow ((below_drew (Below.refl _ _)).alloc (Nat.le_refl _) _) (Nat.le_refl _) _
      have H8 : Hid (((w7.drew.alloc (.cells ZS 37)).setRow w7.drew.heap.size FS).heap[q5]? = some (.cells XS 31 (0, 0)) ∧ ((w7.drew.alloc (.cells ZS 37)).setRow w7.drew.heap.size FS).heap[w7.drew.heap.size]? = some (.cells FS 37 (0, 0)) ∧ Below wr.heap.size wr ((w7.drew.alloc (.cells ZS 37)).setRow w7.drew.heap.size FS) ∧ wr.heap.size < w7.drew.heap.size) := Lib.hid ⟨hS8.2, setRow_at (heap_alloc_new _ _), H7.out.2.trans (hq6b.mono H7.out.2.size), lt_of_cells H7.out.1⟩
      clear hS8 hC hq6b H7
      generalize (w7.drew.alloc (.cells ZS 37)).setRow w7.drew.heap.size FS = w8 at H8 ⊢
      generalize w7.drew.heap.size = q6 at H8 ⊢
      try rw [show w7.heap.size = q6 from rfl]
      have hwr8 := ((HK.out.1.mono (T := fun k => dArF w.heap.size w3.heap.size w4.heap.size k ∧ k < wr.heap.size) fun k hk h => ⟨h, hk⟩).turned (T := fun _ => False) (Turned.of_below H8.out.2.2.1) fun _ _ _ h => h)
      have hlp : (pre ++ plsB (t.take j)).length ≤ 7400010 := by
        have h1 := plsB_len (HL.out.2.2.take j)
        have h2 : (t.take j).length ≤ t.length := by simp; omega
        have h3 := HPRE.out.2
        have h4 := HL.out.2.1
        rw [List.length_append]
        omega
      have hf9 := wfixed hwr8 (id_byt HX.out.1 H8.out.1 HX.out.2.2.2.1) (by omega)
      have HLP := Lib.hid hlp
      have hq6s := lt_of_cells H8.out.2.1
      have HQ6 := Lib.hid hq6s
      obtain ⟨m, hm, hm2⟩ := mayN_nat HF.out.2.2.2.2.1
      have HM := Lib.hid (And.intro hm hm2)
      have hcvm := IntWalk.u64_in (m : Int) (by omega)
      clear hwr8 hlp hq6s hm hm2 hA HQ5
      go_upto_region 10 with (go_at_call 33; refine hf9.mono ?_; clear hf9; rintro _ w9 hp9; obtain ⟨rfl, hw9, ht9⟩ := hp9)
      have h69 : w9.heap[q6]? = some (.cells FS 37 (0, 0)) := (ht9.block _ (lt_of_cells H8.out.2.1) (fun h => by have := h.2; have := H8.out.2.2.2; omega)).trans H8.out.2.1
      have hf10 := wfixed hw9 (pl_byt HF.out.1 h69 HF.out.2.2.2.1) (by rw [List.length_append]; have := HLP.out; have := HX.out.2.2.2.1; omega)
      have H9 := Lib.hid (And.intro h69 ht9)
      clear h69 hw9 ht9
      go_upto_region 11 with (go_at_call 33; refine hf10.mono ?_; clear hf10; rintro _ w10 hp10; obtain ⟨rfl, hw10, ht10⟩ := hp10)
      have h610 : w10.heap[q6]? = some (.cells FS 37 (0, 0)) := (ht10.block _ (lt_of_cells H9.out.1) (fun h => by
        have h1 := HQ6.out
        have h2 := H8.out.2.2.2
        rcases h with h | h
        · have := h.2; omega
        · omega)).trans H9.out.1
      have hcn : w10.cell? ⟨q6, 32, none⟩ = some (.int .i64 (m : Int)) := by
        rw [cell_of_cells h610, HF.out.1, plC_n HF.out.2.2.2.1, HM.out.1]
      have hu11 := wuint hw10 (x := m) (by have := HM.out.2; omega) (by rw [List.length_append, List.length_append]; have := HLP.out; have := HX.out.2.2.2.1; have := HF.out.2.2.2.1; omega)
      have H10 := Lib.hid ht10
      clear h610 hw10 ht10
      go_wp2_with (go_at_call 32; refine hu11.mono ?_; clear hu11; rintro _ w11 hp11; obtain ⟨rfl, hw11, ht11⟩ := hp11; have H11 := Lib.hid (And.intro hw11 ht11); clear hw11 ht11)
      refine ⟨?_, by have := HN.out; simp only [intOf]; omega⟩
      have hs8 : w4.heap.size ≤ wr.heap.size := HK.out.2.size
      have hs9 := H8.out.2.2.1.size
      have hs34 : w3.heap.size ≤ w4.heap.size := HB.out.2.1.size
      have hs0 := HB.out.2.2
      have hs89 := H9.out.2.size
      have hs910 := H10.out.size
      have hT : ∀ k, wr.heap.size ≤ k → dArF w.heap.size w3.heap.size w4.heap.size k := fun k hk => ⟨by omega, by omega⟩
      refine ⟨j + 1, by have := HN.out; omega, by simp, ?_, ?_⟩
      · have htk : t.take (j + 1) = t.take j ++ [x] := by
          obtain ⟨hjl, hxe⟩ := List.getElem?_eq_some_iff.1 HF.out.2.2.2.2.2
          rw [List.take_succ_eq_append_getElem hjl, hxe]
        rw [htk, plsB_snoc]
        have e : pre ++ (plsB (t.take j) ++ plB x) = pre ++ plsB (t.take j) ++ x.1 ++ x.2.1 ++ put m := by
          unfold plB
          rw [HM.out.1, Int.toNat_natCast]
          simp
        rw [e]
        refine H11.out.1.mono fun k hk h => ?_
        rcases h with ((h | h) | h) | h
        · exact h.1
        · exact hT k (by omega)
        · exact hT k (by omega)
        · exact hT k (by omega)
      · refine (HK.out.2.trans (Turned.of_below (S := dArF w.heap.size w3.heap.size w4.heap.size) H8.out.2.2.1) fun _ _ h => h).trans ((H9.out.2.trans H10.out fun i hi h => ?_).trans H11.out.2 fun i hi h => ?_) fun i hi h => h.1
        · rcases h with h | h
          · exact h
          · omega
        · rcases h with (h | h) | h
          · exact h
          · omega
          · omega
    · obtain rfl : j = n := by have := HN.out; omega
      have hnl : ¬ (j : Int) < (j : Int) := by omega
      have hfull : t.take j = t := List.take_of_length_le (by have := HN.out; omega)
      have h1 := HK.out.1
      rw [hfull, HPRE.out.1, HN.out, show put t.length ++ plsB t = ixB t from rfl] at h1
      have hcl : (ixB t).length ≤ 7400010 := by
        have h2 := plsB_len HL.out.2.2
        have h3 := put_length_64 (x := t.length) (by have := HL.out.2.1; omega)
        have h4 := HL.out.2.1
        unfold ixB
        rw [List.length_append]
        omega
      have hout := wout h1 (by omega)
      have HBW := Lib.hid ((HB.out.1.trans (HB.out.2.1.mono HB.out.2.2)).trans ((HK.out.2.mono (T := (w.heap.size ≤ ·)) fun k _ h => h.1).below (by have := HB.out.2.1.size; have := HB.out.2.2; omega)))
      clear hlt h1 hfull hcl
      obtain ⟨M, hM⟩ : ∃ M, M = (ixB t).length := ⟨_, rfl⟩
      rw [← hM] at hout
      have HM := Lib.hid hM
      clear hM
      go_wp2_with (go_at_call 34; refine hout.mono ?_; clear hout; rintro _ w8 ⟨A8, c8, rfl, hy8, hb8, _⟩; have H8 := Lib.hid (And.intro (hy8.mono (T := (w.heap.size ≤ ·)) fun k _ hk => Nat.le_trans HBW.out.size hk) (HBW.out.trans (hb8.mono HBW.out.size))); clear hy8 hb8)
      go_ret
      exact ⟨A8, c8, by rw [← HM.out]; rfl, by rw [← HM.out]; exact H8.out.1, H8.out.2⟩
end Go.Proofs.Ytmmibldchfmleaa
