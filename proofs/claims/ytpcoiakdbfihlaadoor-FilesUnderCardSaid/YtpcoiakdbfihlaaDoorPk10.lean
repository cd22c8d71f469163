/-
  Files: a tree's bytes.
  What was put is read as it was: the pure part (for CodecBack).
  Files, pure: what was put is got.
  Files: those of a tree whose paths begin so.
  A slice of strings that reads as a list of rows of bytes.
  Files: the names that stand in a directory.
-/
import Derived.Test.YtpcoiakdbfihlaaDoorPk08
import Derived.Test.YtpcoiakdbfihlaaDoorPk09
import Derived.Test.YtpcoiakdbfihlaaDoorPk03
import Derived.Test.YtpcoiakdbfihlaaDoorPk02
import Derived.Test.YtpcoiakdbfihlaaDoorPk01
import Derived.Test.YtpcoiakdbfihlaaDoorPk04
import Derived.Deep.AppendLies
/-! Files: a tree's bytes. -/
namespace Go.Proofs.YtpcoiakdbfihlaaDoor
open Go.RowKit Codec

/-- What a tree that may be is bounded by. -/
structure FiOk (l : Tb) : Prop where
  few : l.length ≤ 65536
  path : ∀ x ∈ l, x.1.length ≤ 255
  one : ∀ x ∈ l, x.2.length ≤ 1048576
  all : allF l ≤ 16777216
theorem chk_ok {l : Tb} (h : chkE l = 0) : riseB l = true ∧ clashB l = false ∧ tooB l = false := by
  unfold chkE at h
  split at h
  · cases h
  · rename_i h1
    split at h
    · cases h
    · rename_i h2
      simp only [not_or] at h1
      exact ⟨by simpa using h1.1, by simpa using h1.2, by simpa using h2⟩
theorem fi_ok {l : Tb} (h : chkE l = 0) : FiOk l := by
  obtain ⟨h1, _, h3⟩ := chk_ok h
  unfold tooB at h3
  simp only [Bool.or_eq_false_iff, decide_eq_false_iff_not] at h3
  refine ⟨by omega, fun x hx => pathOk_len (rise_path h1 x hx), fun x hx => ?_, by omega⟩
  have := List.any_eq_false.1 h3.1.2 x hx
  simp at this
  omega
def filEs (l : Tb) : List UInt8 := (l.map filE).flatten
theorem filEs_snoc (l : Tb) (x : Fi) : filEs (l ++ [x]) = filEs l ++ filE x := by simp [filEs]
theorem filE_len {x : Fi} (h1 : x.1.length ≤ 255) (h2 : x.2.length ≤ 1048576) : (filE x).length ≤ 275 + x.2.length := by
  unfold filE
  have e1 := put_length_64 (x := x.1.length) (by omega)
  have e2 := put_length_64 (x := x.2.length) (by omega)
  simp only [List.length_append]
  omega
theorem filEs_len : ∀ (l : Tb), (∀ x ∈ l, x.1.length ≤ 255) → (∀ x ∈ l, x.2.length ≤ 1048576) → (filEs l).length ≤ 275 * l.length + allF l
  | [], _, _ => by simp [filEs]
  | x :: l, h1, h2 => by
    have ih := filEs_len l (fun y hy => h1 y (List.mem_cons_of_mem _ hy)) fun y hy => h2 y (List.mem_cons_of_mem _ hy)
    have h := filE_len (h1 x List.mem_cons_self) (h2 x List.mem_cons_self)
    have e : filEs (x :: l) = filE x ++ filEs l := by simp [filEs]
    rw [e, List.length_append, List.length_cons]
    have e2 : allF (x :: l) = x.2.length + allF l := by simp [allF]
    rw [e2]
    omega
theorem FiOk.take {l : Tb} (h : FiOk l) (j : Nat) : (filEs (l.take j)).length ≤ 40000000 := by
  have h1 := filEs_len (l.take j) (fun x hx => h.path x (List.mem_of_mem_take hx)) fun x hx => h.one x (List.mem_of_mem_take hx)
  have h2 := allF_take l j
  have h3 := h.few
  have h4 := h.all
  have h5 : (l.take j).length ≤ l.length := by rw [List.length_take]; omega
  omega
/-- What Put tells. -/
def fpB (l : Tb) : List UInt8 := if chkE l = 0 then filB l else []
/-- While it is written. -/
def FpR (w : World) (p : Nat) (pre : List UInt8) (l : Tb) (i : Value) (wr : World) : Prop :=
  ∃ j : Nat, j ≤ l.length ∧ i = .int .i64 (j : Int) ∧ Wr wr (w.heap.size ≤ ·) p (pre ++ filEs (l.take j)) ∧ Below w.heap.size w wr
set_option maxHeartbeats 8000000 in
set_option maxRecDepth 100000 in
theorem fput_any {w : World} {S : Nat → Prop} {A : Option Addr} {n c : Nat} {l : Tb} (hl : Fls w S A n c l) (hn : n ≤ 100000000) (hp : ∀ x ∈ l, x.1.length ≤ maxLen) :
    Calls Tryd.prog 12 #[.slice A n c] w fun e w' => ∃ A' m c', e = .returned (.tuple #[.slice A' m c', .int .i64 (chkE l)]) ∧ Byt w' (w.heap.size ≤ ·) A' m c' (fpB l) ∧ Below w.heap.size w w' := by
  have hck := check_files hl hn hp
  have HL := Lib.hid (And.intro hl hl.len)
  have hzc := zero_fi
  clear hl hp
  by_cases h0 : chkE l = 0
  · have HO := Lib.hid (And.intro (fi_ok h0) h0)
    rw [h0] at hck
    have hcv := IntWalk.u64_in (n : Int) (by omega)
    clear h0
    go_enter Tryd.func12, Tryd.ntmps12
    go_upto_region 4 with (go_at_call 16; refine hck.mono ?_; clear hck; rintro _ w0 ⟨rfl, hb0⟩)
    have hnw := newWriter w0
    have HB0 := Lib.hid hb0
    clear hb0
    go_upto_region 5 with (go_at_call 24; refine hnw.mono ?_; clear hnw; rintro _ w1 ⟨p, rfl, hw1, hb1⟩)
    have h2 := wuint hw1 (x := n) (by omega) (by simp)
    have HB1 := Lib.hid hb1
    clear hw1 hb1
    go_upto_region 6 with (go_at_call 25; refine h2.mono ?_; clear h2; rintro _ w2 hp2; obtain ⟨rfl, hw2, ht2⟩ := hp2)
    have hp2 := Put.from (e := .returned (.tuple #[])) (show Put w1 (w0.heap.size ≤ ·) p ([] ++ put n) _ w2 from ⟨rfl, hw2, ht2⟩) HB1.out.size
    obtain ⟨pre, hpre⟩ : ∃ pre, pre = put n := ⟨_, rfl⟩
    have H0 : Hid (FpR w p pre l (.int .i64 0) w2) := Lib.hid ⟨0, Nat.zero_le _, rfl, by rw [hpre]; simpa [filEs] using hp2.1.mono (T := (w.heap.size ≤ ·)) fun k _ h => Nat.le_trans HB0.out.size h, HB0.out.trans ((HB1.out.trans hp2.2).mono HB0.out.size)⟩
    have HPRE : Hid (pre = put n ∧ pre.length ≤ 20) := Lib.hid ⟨hpre, by rw [hpre]; have h2 := put_length_64 (x := n) (by omega); omega⟩
    clear hw2 ht2 hp2 HB1 hpre HB0
    go_wp2_with fail
    go_loopw [21] (fun i wr => FpR w p pre l i wr) (fun i _ => n - (intOf i).toNat)
    case atStart => exact H0.out
    case round =>
      obtain ⟨j, hj, rfl, hwr, hbw⟩ := hrel
      clear H0
      have HK := Lib.hid (And.intro hwr hbw)
      clear hwr hbw
      by_cases hlt : j < n
      · have hlt' : (j : Int) < (n : Int) := by omega
        obtain ⟨q, off, x, Ai, ni, ci, rfl, _, hqlt, hx, hcs, hy⟩ := HL.out.1.at_ hlt
        obtain rfl : ni = x.2.length := hy.len.symm
        have hx1 := HO.out.1.path x (List.mem_of_getElem? hx)
        have hx2 := HO.out.1.one x (List.mem_of_getElem? hx)
        have htk := HO.out.1.take j
        obtain ⟨CV, hCV⟩ : ∃ CV, CV = fiV Ai x.2.length ci x := ⟨_, rfl⟩
        rw [← hCV] at hcs
        have hcw : ∀ (i : Nat) (v : Value), CV[i]? = some v → wr.cell? ((⟨q, off + j * 2, none⟩ : Addr).add i) = some v := fun i v hv => by
          have h1 := hcs i v hv
          rw [add_plain] at h1 ⊢
          exact (HK.out.2.cell (p := ⟨_, _, none⟩) hqlt).trans h1
        have hyr := (hy.mono (T := fun k => k < w.heap.size) fun k hk _ => hk).below HK.out.2
        have hadd := IntWalk.i64_in ((j : Int) + 1) (by omega)
        have HCV := Lib.hid (And.intro hCV (And.intro hcw hyr))
        have HX := Lib.hid (And.intro hx (And.intro hx1 (And.intro hx2 (And.intro htk hlt))))
        clear hCV hcw hyr hcs hy hx hx1 hx2 htk hqlt
        go_upto_region 9 with (first
          | (refine wpList_load_at (by rfl) 50 (.tmp 23) (by rfl) ⟨q, off + j * 2, none⟩ (by rfl) CV _ HCV.out.2.1 Tryd.underlying50 (by rfl) (by rw [HCV.out.1]; exact fi_info) ?_)
          | (refine wpList_store_row (by rfl) 50 (.tmp 7) (.tmp 24) (by rfl) wr.heap.size CV (by rfl) (by rfl) 50 _ (heap_alloc_new wr _) (by rw [HCV.out.1]; exact fi_info) (by rw [HCV.out.1]; rfl) (by rw [HCV.out.1]; exact fiV_one _ _ _ _) ?_))
        have hal : Below wr.heap.size wr ((wr.alloc (.cells #[.string ⟨#[]⟩, .slice none 0 0] 50)).setRow wr.heap.size CV) := below_setRow ((Below.refl _ _).alloc (Nat.le_refl _) _) (Nat.le_refl _) _
        have hpa : ((wr.alloc (.cells #[.string ⟨#[]⟩, .slice none 0 0] 50)).setRow wr.heap.size CV).heap[wr.heap.size]? = some (.cells CV 50 (0, 0)) := setRow_at (heap_alloc_new wr _)
        have hw5 := (HK.out.1.mono (T := fun k => w.heap.size ≤ k ∧ k ≠ wr.heap.size) fun k hk h => ⟨h, by omega⟩).turned (T := fun _ => False) (Turned.of_below hal) fun _ _ _ h => h
        have H5 := Lib.hid (And.intro hal (And.intro hpa (show ((wr.alloc (.cells #[.string ⟨#[]⟩, .slice none 0 0] 50)).setRow wr.heap.size CV).heap.size = wr.heap.size + 1 by simp [World.setRow])))
        have HW5 := Lib.hid hw5
        clear hal hpa hzc hw5
        generalize (wr.alloc (.cells #[.string ⟨#[]⟩, .slice none 0 0] 50)).setRow wr.heap.size CV = w5 at *
        have hc0 : w5.cell? ⟨wr.heap.size, 0, none⟩ = some (.string (st x.1)) := by rw [cell_of_cells H5.out.2.1, HCV.out.1]; rfl
        have hy5 := HCV.out.2.2.below H5.out.1
        have HY5 := Lib.hid hy5
        clear hy5
        obtain ⟨c6, w6, hcv6, hb6, hy6⟩ := conv_bytes x.1 (by have := HX.out.2.1; omega) w5
        have hl5 : (pre ++ filEs (l.take j)).length ≤ 40000100 := by rw [List.length_append]; have := HPRE.out.2; have := HX.out.2.2.2.1; omega
        have hwb := wbytes ((HW5.out.mono (T := fun k => (w.heap.size ≤ k ∧ k ≠ wr.heap.size) ∧ k < w5.heap.size) fun k hk h => ⟨h, hk⟩).turned (T := fun _ => False) (Turned.of_below hb6) fun _ _ _ h => h) hy6 (fun k _ h1 h2 => by rw [h1] at h2; omega) (by have := HX.out.2.1; omega)
        have HB6 := Lib.hid (And.intro hb6 hl5)
        clear hb6 hy6 hl5
        go_upto_region 10 with (go_at_call 26; refine hwb.mono ?_; clear hwb; rintro _ w7 hp7; obtain ⟨rfl, hw7, ht7⟩ := hp7)
        have H7 := Lib.hid (And.intro (hw7.mono (T := fun k => w.heap.size ≤ k ∧ k ≠ wr.heap.size) fun k hk h => by
            have h1 := HB6.out.1.size; have h2 := H5.out.2.2; have h3 := HK.out.2.size
            rcases h with h | h
            · exact h.1
            · exact ⟨by omega, by omega⟩) ((Turned.of_below (S := fun k => w.heap.size ≤ k ∧ k ≠ wr.heap.size) HB6.out.1).trans ht7 fun k _ h => h.1))
        clear hw7 ht7 hcv6 hc0
        have hc1 : w7.cell? ⟨wr.heap.size, 1, none⟩ = some (.slice Ai x.2.length ci) := (cell_turned H7.out.2 (by have := H5.out.2.2; omega) (fun h => h.2 rfl) 1).trans (by rw [cell_of_cells H5.out.2.1, HCV.out.1]; rfl)
        have hrl : ((pre ++ filEs (l.take j)) ++ (put x.1.length ++ x.1)).length ≤ 50000000 := by
          have h1 := put_length_64 (x := x.1.length) (by have := HX.out.2.1; omega)
          have h2 := HB6.out.2
          have h3 := HX.out.2.1
          simp only [List.length_append] at h2 ⊢
          omega
        have hwv := wbytes (H7.out.1) (HY5.out.turned H7.out.2 fun k _ h1 h2 => by have := h2.1; omega) (fun k _ h1 h2 => by have := h2.1; omega) (by have h1 := hrl; have := HX.out.2.2.1; omega)
        have HTK : Hid (l.take (j + 1) = l.take j ++ [x]) := Lib.hid (by
          obtain ⟨hjl, hxe⟩ := List.getElem?_eq_some_iff.1 HX.out.1
          rw [List.take_succ_eq_append_getElem hjl, hxe])
        have HBA : Hid (∀ W, Turned (fun k => w.heap.size ≤ k ∧ k ≠ wr.heap.size) w5 W → Below w.heap.size w W) := Lib.hid (fun W h => HK.out.2.trans ((H5.out.1.mono HK.out.2.size).trans ((h.mono (T := (w.heap.size ≤ ·)) fun k _ hk => hk.1).below (by have := HK.out.2.size; have := H5.out.2.2; omega))))
        clear hrl
        go_wp2_with (go_at_call 26; refine hwv.mono ?_; clear hwv; rintro _ w9 hp9; obtain ⟨rfl, hw9, ht9⟩ := hp9; have H9 := Lib.hid (And.intro hw9 ht9); clear hw9 ht9)
        go_roundw
        case rel =>
          unfold FpR
          refine ⟨j + 1, by have := HX.out.2.2.2.2; have := HL.out.2; omega, by simp, ?_, HBA.out _ (H7.out.2.trans H9.out.2 fun k _ h => h)⟩
          rw [HTK.out, filEs_snoc]
          have e : pre ++ (filEs (l.take j) ++ filE x) = pre ++ filEs (l.take j) ++ (put x.1.length ++ x.1) ++ (put x.2.length ++ x.2) := by
            unfold filE
            simp
          rw [e]
          refine H9.out.1.mono fun k hk h => ?_
          rcases h with h | h
          · exact h.1
          · have h1 := H7.out.2.size
            have h2 := H5.out.2.2
            have h3 := HK.out.2.size
            omega
        case measure => have := HX.out.2.2.2.2; simp only [intOf]; omega
      · obtain rfl : j = n := by have := HL.out.2; omega
        have hnl : ¬ (j : Int) < (j : Int) := by omega
        have hfull : l.take j = l := List.take_of_length_le (by have := HL.out.2; omega)
        have h1 := HK.out.1
        have hlen := HO.out.1.take j
        rw [hfull] at hlen
        have hpl := HPRE.out.2
        have hpe := HPRE.out.1
        rw [hfull] at h1
        have hfb : pre ++ filEs l = filB l := by rw [hpe, ← HL.out.2]; rfl
        have hfl : (filB l).length ≤ 50000000 := by rw [← hfb, List.length_append]; omega
        rw [hfb] at h1
        have hout := wout h1 (by omega)
        have HB := Lib.hid HK.out.2
        clear hlt h1 hfull hlen hpl hpe hfb hfl
        obtain ⟨M, hM⟩ : ∃ M, M = (filB l).length := ⟨_, rfl⟩
        rw [← hM] at hout
        clear hM
        go_wp2_with (go_at_call 27; refine hout.mono ?_; clear hout; rintro _ w8 ⟨A8, c8, rfl, hy8, hb8, _⟩; have H8 := Lib.hid (And.intro (hy8.mono (T := (w.heap.size ≤ ·)) fun k _ hk => Nat.le_trans HB.out.size hk) (HB.out.trans (hb8.mono HB.out.size))); clear hy8 hb8)
        go_ret2
        exact ⟨A8, _, c8, by rw [HO.out.2]; rfl, by unfold fpB; rw [if_pos HO.out.2]; exact H8.out.1, H8.out.2⟩
  · have HN := Lib.hid h0
    have hne : ((chkE l) != 0) = true := by simpa using h0
    obtain ⟨E, hE⟩ : ∃ E, E = chkE l := ⟨_, rfl⟩
    rw [← hE] at hck hne
    have HE := Lib.hid hE
    clear h0 hE
    go_enter Tryd.func12, Tryd.ntmps12
    go_wp2_with (go_at_call 16; refine hck.mono ?_; clear hck; rintro _ w0 ⟨rfl, hb0⟩)
    go_ret2
    exact ⟨none, 0, 0, by rw [← HE.out]; rfl, by unfold fpB; rw [if_neg HN.out]; exact Byt.nil _ _ _ _ (Nat.zero_le _), hb0⟩
end Go.Proofs.YtpcoiakdbfihlaaDoor

/-! What was put is read as it was: the pure part (for CodecBack). -/
namespace Go.Proofs.YtpcoiakdbfihlaaDoor
open Go.RowKit Codec
theorem fixed_back (b R : List UInt8) (n : Nat) (h : b.length = n) : tkE (b ++ R) 0 (n : Int) = 0 ∧ fxL (b ++ R) 0 (n : Int) = R ∧ fxB (b ++ R) 0 (n : Int) = b := by
  have e : tkE (b ++ R) 0 (n : Int) = 0 := by
    unfold tkE
    rw [if_neg (by simp), if_neg (by omega), if_neg (by simp; omega)]
  refine ⟨e, ?_, ?_⟩
  · unfold fxL; rw [if_pos e]; simp [← h]
  · unfold fxB; rw [if_pos e]; simp [← h]
theorem uint_back (x : Nat) (R : List UInt8) (hx : x < 18446744073709551616) : (rd 0 (put x ++ R)).1 = x ∧ (put x ++ R).drop (rd 0 (put x ++ R)).2.1 = R ∧ (rd 0 (put x ++ R)).2.2 = 0 := by
  rw [rd_put0 hx]
  exact ⟨rfl, List.drop_left, rfl⟩
theorem bytes_back (b R : List UInt8) (h : b.length ≤ 200) : byE ((put b.length ++ b) ++ R) 0 200 = 0 ∧ byL ((put b.length ++ b) ++ R) 0 200 = R ∧ byB ((put b.length ++ b) ++ R) 0 200 = b := by
  obtain ⟨h1, h2, h3⟩ := uint_back b.length (b ++ R) (by omega)
  rw [List.append_assoc]
  have e1 : uiX (put b.length ++ (b ++ R)) 0 = b.length := by unfold uiX; rw [if_pos rfl, h1]
  have e2 : uiL (put b.length ++ (b ++ R)) 0 = b ++ R := by unfold uiL; rw [if_pos rfl, h2]
  have e3 : uiE (put b.length ++ (b ++ R)) 0 = 0 := by unfold uiE; rw [if_pos rfl, h3]; rfl
  obtain ⟨f1, f2, f3⟩ := fixed_back b R b.length rfl
  unfold byE byL byB
  rw [e1, e2, e3]
  have hn : ¬ ((200 : Int) < 0 ∨ (200 : Int) < (b.length : Int)) := by omega
  rw [if_neg (by simp), if_neg hn, if_neg (by simp), if_neg hn, if_neg (by simp), if_neg hn]
  exact ⟨f1, f2, f3⟩
theorem bool_back (v : UInt8) (R : List UInt8) (hv : v.toNat ≤ 1) : boE (v :: R) 0 = 0 ∧ fxL (v :: R) 0 1 = R ∧ boX (v :: R) 0 = (v.toNat == 1) := by
  have e : tkE (v :: R) 0 1 = 0 := by
    unfold tkE
    rw [if_neg (by simp), if_neg (by omega), if_neg (by simp; omega)]
  refine ⟨?_, ?_, ?_⟩
  · unfold boE; rw [e, if_neg (by simp), if_neg (by simp; omega)]
  · unfold fxL; rw [if_pos e]; rfl
  · unfold boX; rw [e, if_neg (by simp)]; rfl
end Go.Proofs.YtpcoiakdbfihlaaDoor

/-! Files, pure: what was put is got. -/
namespace Go.Proofs.YtpcoiakdbfihlaaDoor
open Go.RowKit Codec

theorem fui_back (x : Nat) (R : List UInt8) (hx : x < 18446744073709551616) : uiX (put x ++ R) 0 = x ∧ uiL (put x ++ R) 0 = R ∧ uiE (put x ++ R) 0 = 0 := by
  obtain ⟨h1, h2, h3⟩ := uint_back x R hx
  exact ⟨by unfold uiX; rw [if_pos rfl, h1], by unfold uiL; rw [if_pos rfl, h2], by unfold uiE; rw [if_pos rfl, h3]; rfl⟩
theorem frow_back (b R : List UInt8) (m : Nat) (h : b.length ≤ m) (hm : m ≤ 2000000) : byE (put b.length ++ (b ++ R)) 0 (m : Int) = 0 ∧ byL (put b.length ++ (b ++ R)) 0 (m : Int) = R ∧ byB (put b.length ++ (b ++ R)) 0 (m : Int) = b := by
  obtain ⟨e1, e2, e3⟩ := fui_back b.length (b ++ R) (by omega)
  obtain ⟨f1, f2, f3⟩ := fixed_back b R b.length rfl
  unfold byE byL byB
  rw [e1, e2, e3]
  have hn : ¬ ((m : Int) < 0 ∨ (m : Int) < (b.length : Int)) := by omega
  rw [if_neg (by simp), if_neg hn, if_neg (by simp), if_neg hn, if_neg (by simp), if_neg hn]
  exact ⟨f1, f2, f3⟩
theorem fgGo_back : ∀ (l acc : Tb) (R : List UInt8), (∀ x ∈ l, x.1.length ≤ 255) → (∀ x ∈ l, x.2.length ≤ 1048576) → fgGo l.length acc (filEs l ++ R) 0 = (acc ++ l, R, 0)
  | [], acc, R, _, _ => by simp [fgGo, filEs]
  | x :: l, acc, R, h1, h2 => by
    have e : filEs (x :: l) ++ R = put x.1.length ++ (x.1 ++ (put x.2.length ++ (x.2 ++ (filEs l ++ R)))) := by simp [filEs, filE]
    obtain ⟨a1, a2, a3⟩ := frow_back x.1 (put x.2.length ++ (x.2 ++ (filEs l ++ R))) 255 (h1 x List.mem_cons_self) (by omega)
    obtain ⟨b1, b2, b3⟩ := frow_back x.2 (filEs l ++ R) 1048576 (h2 x List.mem_cons_self) (by omega)
    have a1' : byE (put x.1.length ++ (x.1 ++ (put x.2.length ++ (x.2 ++ (filEs l ++ R))))) 0 255 = 0 := a1
    have a2' : byL (put x.1.length ++ (x.1 ++ (put x.2.length ++ (x.2 ++ (filEs l ++ R))))) 0 255 = _ := a2
    have a3' : byB (put x.1.length ++ (x.1 ++ (put x.2.length ++ (x.2 ++ (filEs l ++ R))))) 0 255 = _ := a3
    have b1' : byE (put x.2.length ++ (x.2 ++ (filEs l ++ R))) 0 1048576 = 0 := b1
    have b2' : byL (put x.2.length ++ (x.2 ++ (filEs l ++ R))) 0 1048576 = _ := b2
    have b3' : byB (put x.2.length ++ (x.2 ++ (filEs l ++ R))) 0 1048576 = _ := b3
    rw [e, List.length_cons, fgGo, a1', a2', a3', b1', b2', b3', if_neg (by simp), fgGo_back l (acc ++ [(x.1, x.2)]) R (fun y hy => h1 y (List.mem_cons_of_mem _ hy)) fun y hy => h2 y (List.mem_cons_of_mem _ hy)]
    simp
/-- WHAT IS PUT IS GOT. -/
theorem get_put {l : Tb} (h : chkE l = 0) : getF (filB l) = (l, 0) := by
  have ho := fi_ok h
  have e : filB l = put l.length ++ filEs l := rfl
  obtain ⟨e1, e2, e3⟩ := fui_back l.length (filEs l) (by have := ho.few; omega)
  unfold getF
  rw [e, e1, e2, e3, if_neg (by have := ho.few; omega)]
  have hg := fgGo_back l [] [] ho.path ho.one
  rw [List.append_nil, List.nil_append] at hg
  rw [hg, fgEnd]
  simp only
  rw [if_neg (by simp [endE]), if_neg (by simp [h])]
theorem rise_ris : ∀ {l : Tb}, riseB l = true → Ris l := by
  intro l h i k x y hik hi hk
  -- each one is above the one ahead
  have step : ∀ (l : Tb), riseB l = true → ∀ (i : Nat) (x y : Fi), l[i]? = some x → l[i + 1]? = some y → x.1 < y.1 := by
    intro l
    induction l with
    | nil => intro _ i x y hx; simp at hx
    | cons z t ih =>
      intro h i x y hx hy
      unfold riseB at h
      simp only [Bool.and_eq_true] at h
      cases i with
      | zero =>
        simp at hx hy
        subst hx
        cases t with
        | nil => simp at hy
        | cons u t =>
          simp at hy
          subst hy
          simpa using h.1.2
      | succ i => exact ih h.2 i x y (by simpa using hx) (by simpa using hy)
  have key : ∀ d i x y, l[i]? = some x → l[i + d + 1]? = some y → x.1 < y.1 := by
    intro d
    induction d with
    | zero => exact fun i x y hx hy => step l h i x y hx hy
    | succ d ih =>
      intro i x y hx hy
      obtain ⟨z, hz⟩ : ∃ z, l[i + d + 1]? = some z := ⟨_, List.getElem?_eq_getElem (by have := (List.getElem?_eq_some_iff.1 hy).1; omega)⟩
      exact klt_tr (ih i x z hx hz) (step l h (i + d + 1) z y hz hy)
  exact key (k - i - 1) i x y hi (by rw [show i + (k - i - 1) + 1 = k by omega]; exact hk)
end Go.Proofs.YtpcoiakdbfihlaaDoor

/-! Files: those of a tree whose paths begin so. -/
namespace Go.Proofs.YtpcoiakdbfihlaaDoor
open Go.RowKit Codec

theorem prefix_lt : ∀ (f x y : List UInt8), ¬ x < f → f.isPrefixOf x = false → f.isPrefixOf y = true → y < x
  | [], x, y, _, h, _ => by simp at h
  | c :: f, [], y, h, _, _ => absurd (by simp) h
  | c :: f, d :: x, [], _, _, h => by simp at h
  | c :: f, d :: x, b :: y, h1, h2, h3 => by
    simp only [List.isPrefixOf_cons_cons, Bool.and_eq_true, beq_iff_eq] at h3
    obtain ⟨rfl, h3⟩ := h3
    rw [List.cons_lt_cons_iff] at h1 ⊢
    simp only [not_or, not_and] at h1
    by_cases hcd : c = d
    · subst hcd
      have h2' : f.isPrefixOf x = false := by simpa using h2
      exact .inr ⟨rfl, prefix_lt f x y (h1.2 rfl) h2' h3⟩
    · exact .inl (by
        have h4 : c ≤ d := UInt8.not_lt.1 h1.1
        exact UInt8.lt_of_le_of_ne h4 hcd)
theorem prefix_ge : ∀ (f y : List UInt8), f.isPrefixOf y = true → ¬ y < f
  | [], y, _ => by simp
  | c :: f, [], h => by simp at h
  | c :: f, b :: y, h => by
    simp only [List.isPrefixOf_cons_cons, Bool.and_eq_true, beq_iff_eq] at h
    obtain ⟨rfl, h⟩ := h
    rw [List.cons_lt_cons_iff]
    rintro (h2 | ⟨_, h2⟩)
    · exact absurd h2 (UInt8.lt_irrefl c)
    · exact prefix_ge f y h h2
/-- Those that begin so. -/
def begL (f : List UInt8) (l : Tb) : Tb := l.filter fun x => f.isPrefixOf x.1
theorem begL_eq {l : Tb} (hr : Ris l) {f : List UInt8} {a j : Nat} (hlo : ∀ k x, k < a → l[k]? = some x → x.1 < f) (hhi : ∀ k x, a ≤ k → l[k]? = some x → ¬ x.1 < f)
    (hin : ∀ k x, a ≤ k → k < a + j → l[k]? = some x → f.isPrefixOf x.1 = true) (hout : ∀ x, l[a + j]? = some x → f.isPrefixOf x.1 = false) : begL f l = (l.drop a).take j := by
  have e : l = l.take a ++ ((l.drop a).take j ++ (l.drop a).drop j) := by rw [List.take_append_drop, List.take_append_drop]
  have h1 : begL f (l.take a) = [] := by
    unfold begL
    rw [List.filter_eq_nil_iff]
    intro x hx hp
    obtain ⟨k, hk⟩ := List.getElem?_of_mem hx
    have hka : k < a := by
      have := (List.getElem?_eq_some_iff.1 hk).1
      rw [List.length_take] at this
      omega
    rw [List.getElem?_take_of_lt hka] at hk
    exact prefix_ge f x.1 hp (hlo k x hka hk)
  have h2 : begL f ((l.drop a).take j) = (l.drop a).take j := by
    unfold begL
    rw [List.filter_eq_self]
    intro x hx
    obtain ⟨k, hk⟩ := List.getElem?_of_mem hx
    have hkj : k < j := by
      have := (List.getElem?_eq_some_iff.1 hk).1
      rw [List.length_take] at this
      omega
    rw [List.getElem?_take_of_lt hkj, List.getElem?_drop] at hk
    exact hin (a + k) x (by omega) (by omega) hk
  have h3 : begL f ((l.drop a).drop j) = [] := by
    unfold begL
    rw [List.filter_eq_nil_iff]
    intro x hx hp
    obtain ⟨k, hk⟩ := List.getElem?_of_mem hx
    rw [List.getElem?_drop, List.getElem?_drop] at hk
    have hlt := (List.getElem?_eq_some_iff.1 hk).1
    obtain ⟨y, hy⟩ : ∃ y, l[a + j]? = some y := ⟨_, List.getElem?_eq_getElem (by omega)⟩
    have hyo := hout y hy
    have hyn := hhi (a + j) y (by omega) hy
    have hxy := prefix_lt f y.1 x.1 hyn hyo hp
    by_cases hk0 : k = 0
    · subst hk0
      rw [Nat.add_zero] at hk
      rw [hy] at hk
      obtain rfl := Option.some.inj hk
      rw [hyo] at hp
      cases hp
    · exact klt_as hxy (hr (a + j) (a + (j + k)) y x (by omega) hy hk)
  conv => lhs; rw [e]
  unfold begL at h1 h2 h3 ⊢
  rw [List.filter_append, List.filter_append, h1, h2, h3]
  simp

/-! ### parts of a row of files -/
theorem fi_size : ∀ w, (Go.sizeOf 50).run Tryd.prog w = .ok 2 w := fun w => by kernel_rfl
def cutF (A : Option Addr) (c k : Nat) : Option Addr := if c = k then A else A.map (·.add (k * 2))
theorem run_cutF (A : Option Addr) (n c k : Nat) (hk : k ≤ n) (W : World) :
    (Instr.slice 22 (.slice A n c) (some (.int .i64 (k : Int))) none none).run Tryd.prog W = .ok (.slice (cutF A c k) (n - k) (c - k)) W := by
  have ht := Tryd.underlying22
  have ht' : Tryd.prog.underlying 22 = some (.slice (Tryd.prog.elem 22)) := by simp [Program.elem, ht]
  have he : Tryd.prog.elem 22 = 50 := by simp [Program.elem, ht]
  rw [run_slice_l W 22 A n c ht' .i64 (k : Int) (by omega) (by omega), he, fi_size]
  simp [Result.andThen, sliced, cutF]
theorem run_toF (A : Option Addr) (n c k : Nat) (hk : k ≤ c) (W : World) :
    (Instr.slice 22 (.slice A n c) none (some (.int .i64 (k : Int))) none).run Tryd.prog W = .ok (.slice A k c) W := by
  have ht := Tryd.underlying22
  have ht' : Tryd.prog.underlying 22 = some (.slice (Tryd.prog.elem 22)) := by simp [Program.elem, ht]
  have he : Tryd.prog.elem 22 = 50 := by simp [Program.elem, ht]
  rw [run_slice_h W 22 A n c ht' .i64 (k : Int) (by omega) (by omega), he, fi_size]
  have h0 : ∀ a : Addr, a.add 0 = a := fun a => by simp [Addr.add]
  cases A <;> simp [Result.andThen, sliced, h0]
theorem Fls.cut {w : World} {S : Nat → Prop} {A : Option Addr} {n c k : Nat} {l : Tb} (h : Fls w S A n c l) (hk : k ≤ n) : Fls w S (cutF A c k) (n - k) (c - k) (l.drop k) :=
  ⟨by rw [List.length_drop, h.len], by have := h.cap; omega, by have := h.max; omega, fun h0 => by
    obtain ⟨b, off, rfl, hS, hb, hc⟩ := h.row (by omega)
    have := h.cap
    unfold cutF
    rw [if_neg (by omega)]
    refine ⟨b, off + k * 2, by simp [add_plain], hS, hb, fun i x hx => ?_⟩
    rw [List.getElem?_drop] at hx
    obtain ⟨Ai, ni, ci, h1, h2⟩ := hc (k + i) x hx
    refine ⟨Ai, ni, ci, fun j v hv => ?_, h2⟩
    have := h1 j v hv
    rwa [show off + k * 2 + i * 2 + j = off + (k + i) * 2 + j by omega]⟩
theorem Fls.to {w : World} {S : Nat → Prop} {A : Option Addr} {n c k : Nat} {l : Tb} (h : Fls w S A n c l) (hk : k ≤ n) : Fls w S A k c (l.take k) :=
  ⟨by rw [List.length_take, h.len]; omega, by have := h.cap; omega, h.max, fun h0 => by
    obtain ⟨b, off, hA, hS, hb, hc⟩ := h.row (by omega)
    refine ⟨b, off, hA, hS, hb, fun i x hx => ?_⟩
    have hi : i < k := by
      have := (List.getElem?_eq_some_iff.1 hx).1
      rw [List.length_take] at this
      omega
    rw [List.getElem?_take_of_lt hi] at hx
    exact hc i x hx⟩
/-- While they are looked at. -/
def BeR (w : World) (f : List UInt8) (m : Tb) (i : Value) (wr : World) : Prop :=
  ∃ j : Nat, j ≤ m.length ∧ i = .int .i64 (j : Int) ∧ (∀ k x, k < j → m[k]? = some x → f.isPrefixOf x.1 = true) ∧ Below w.heap.size w wr
set_option maxHeartbeats 8000000 in
set_option maxRecDepth 100000 in
theorem begin_any {w : World} {S : Nat → Prop} {A : Option Addr} {n c : Nat} {l : Tb} (hl : Fls w S A n c l) (hn : n ≤ 100000000) (hr : Ris l) (f : List UInt8) :
    Calls Tryd.prog 47 #[.slice A n c, .string (st f)] w fun e w' => ∃ A' c', e = .returned (.slice A' (begL f l).length c') ∧ Fls w S A' (begL f l).length c' (begL f l) ∧ Below w.heap.size w w' := by
  have hbs := bsearch_any hl hn hr f
  have HL := Lib.hid (And.intro hl (And.intro hl.len hr))
  have hzc := zero_fi
  clear hl hr
  go_enter Tryd.func47, Tryd.ntmps47
  go_upto_region 2 with (go_at_call 56; refine hbs.mono ?_; clear hbs; rintro _ w1 ⟨a, z, rfl, han, hlo, hhi, hb1⟩)
  have hcut := fun W => run_cutF A n c a (by rw [← HL.out.2.1]; exact han) W
  have hfc := HL.out.1.cut (k := a) (by rw [← HL.out.2.1]; exact han)
  obtain ⟨A2, hA2⟩ : ∃ A2, A2 = cutF A c a := ⟨_, rfl⟩
  obtain ⟨n2, hn2⟩ : ∃ n2, n2 = n - a := ⟨_, rfl⟩
  obtain ⟨c2, hc2⟩ : ∃ c2, c2 = c - a := ⟨_, rfl⟩
  rw [← hA2, ← hn2, ← hc2] at hcut hfc
  obtain ⟨m, hm⟩ : ∃ m, m = l.drop a := ⟨_, rfl⟩
  rw [← hm] at hfc
  have HM := Lib.hid (And.intro hfc (And.intro hfc.len (And.intro hm (And.intro hlo (And.intro hhi (And.intro hb1 han))))))
  have H0 : Hid (BeR w f m (.int .i64 0) w1) := Lib.hid ⟨0, Nat.zero_le _, rfl, fun k x h => absurd h (Nat.not_lt_zero _), hb1⟩
  have hn2' : n2 ≤ 100000000 := by omega
  clear hA2 hn2 hc2 hm hfc hlo hhi hb1 han
  go_wp2_with fail
  go_loopw [20] (fun i wr => BeR w f m i wr) (fun i _ => n2 - (intOf i).toNat)
  case atStart => exact H0.out
  case round =>
    obtain ⟨j, hj, rfl, hall, hb⟩ := hrel
    clear H0
    have HK := Lib.hid (And.intro hall hb)
    clear hall hb
    by_cases hlt : j < n2
    · have hlt' : (j : Int) < (n2 : Int) := by omega
      obtain ⟨q, off, x, Ai, ni, ci, rfl, _, hqlt, hx, hcs, hy⟩ := HM.out.1.at_ hlt
      obtain ⟨CV, hCV⟩ : ∃ CV, CV = fiV Ai ni ci x := ⟨_, rfl⟩
      rw [← hCV] at hcs
      have hcw : ∀ (i : Nat) (v : Value), CV[i]? = some v → wr.cell? ((⟨q, off + j * 2, none⟩ : Addr).add i) = some v := fun i v hv => by
        have h1 := hcs i v hv
        rw [add_plain] at h1 ⊢
        exact (HK.out.2.cell (p := ⟨_, _, none⟩) hqlt).trans h1
      have hadd := IntWalk.i64_in ((j : Int) + 1) (by omega)
      have HCV := Lib.hid (And.intro hCV hcw)
      have HX := Lib.hid (And.intro hx hlt)
      clear hCV hcw hcs hy hx hqlt hcut
      go_upto_region 6 with (first
        | (refine wpList_load_at (by rfl) 50 (.tmp 23) (by rfl) ⟨q, off + j * 2, none⟩ (by rfl) CV _ HCV.out.2 Tryd.underlying50 (by rfl) (by rw [HCV.out.1]; exact fi_info) ?_)
        | (refine wpList_store_row (by rfl) 50 (.tmp 8) (.tmp 24) (by rfl) wr.heap.size CV (by rfl) (by rfl) 50 _ (heap_alloc_new wr _) (by rw [HCV.out.1]; exact fi_info) (by rw [HCV.out.1]; rfl) (by rw [HCV.out.1]; exact fiV_one _ _ _ _) ?_))
      have hal : Below wr.heap.size wr ((wr.alloc (.cells #[.string ⟨#[]⟩, .slice none 0 0] 50)).setRow wr.heap.size CV) := below_setRow ((Below.refl _ _).alloc (Nat.le_refl _) _) (Nat.le_refl _) _
      have hpa : ((wr.alloc (.cells #[.string ⟨#[]⟩, .slice none 0 0] 50)).setRow wr.heap.size CV).heap[wr.heap.size]? = some (.cells CV 50 (0, 0)) := setRow_at (heap_alloc_new wr _)
      obtain ⟨X, hX⟩ : ∃ X, X = x.1 := ⟨_, rfl⟩
      have hpx : ((wr.alloc (.cells #[.string ⟨#[]⟩, .slice none 0 0] 50)).setRow wr.heap.size CV).cell? ⟨wr.heap.size, 0, none⟩ = some (.string (st X)) := by rw [cell_of_cells hpa, HCV.out.1, hX]; rfl
      have H5 := Lib.hid (And.intro hal hX)
      clear hal hpa hzc hX
      generalize (wr.alloc (.cells #[.string ⟨#[]⟩, .slice none 0 0] 50)).setRow wr.heap.size CV = w5 at *
      have hhp := hasprefix_any (st X) (st f) w5
      rw [st_data, st_data] at hhp
      by_cases hp : f.isPrefixOf X = true
      · rw [show Lib.hasPrefix X f = true from hp] at hhp
        have HP := Lib.hid hp
        clear hp
        go_wp2_with (go_at_call 59; refine hhp.mono ?_; clear hhp; rintro _ _ ⟨rfl, rfl⟩)
        go_roundw
        case rel =>
          refine ⟨j + 1, by have h1 := HX.out.2; have h2 := HM.out.2.1; omega, by simp, fun k y hk hy => ?_, HK.out.2.trans (H5.out.1.mono HK.out.2.size)⟩
          by_cases e : k = j
          · subst e
            rw [HX.out.1] at hy
            rw [← Option.some.inj hy, ← H5.out.2]
            exact HP.out
          · exact HK.out.1 k y (by omega) hy
        case measure => have := HX.out.2; simp only [intOf]; omega
      · have hp' : f.isPrefixOf X = false := Bool.eq_false_iff.2 hp
        rw [show Lib.hasPrefix X f = false from hp'] at hhp
        have hto := fun W => run_toF (some ⟨q, off, none⟩) n2 c2 j (by have h1 := HM.out.1.cap; have h2 := HX.out.2; omega) W
        have HBE : Hid (begL f l = m.take j) := Lib.hid (by
          rw [HM.out.2.2.1]
          refine begL_eq HL.out.2.2 HM.out.2.2.2.1 HM.out.2.2.2.2.1 (fun k y h1 h2 hy => HK.out.1 (k - a) y (by omega) (by rw [HM.out.2.2.1, List.getElem?_drop, show a + (k - a) = k by omega]; exact hy)) fun y hy => ?_
          have h1 := HX.out.1
          rw [HM.out.2.2.1, List.getElem?_drop, hy] at h1
          rw [Option.some.inj h1, ← H5.out.2]
          exact hp')
        clear hp hp'
        go_wp2_with (go_at_call 59; refine hhp.mono ?_; clear hhp; rintro _ _ ⟨rfl, rfl⟩)
        go_ret
        rw [HBE.out]
        have hfl := HM.out.1.to (k := j) (by have := HX.out.2; omega)
        have hlj : (m.take j).length = j := by rw [List.length_take]; have h1 := HX.out.2; have h2 := HM.out.2.1; omega
        rw [hlj]
        exact ⟨_, _, rfl, hfl, HK.out.2.trans (H5.out.1.mono HK.out.2.size)⟩
    · have HBE : Hid (begL f l = m) := Lib.hid (by
        rw [begL_eq HL.out.2.2 (j := n2) HM.out.2.2.2.1 HM.out.2.2.2.2.1 (fun k y h1 h2 hy => HK.out.1 (k - a) y (by omega) (by rw [HM.out.2.2.1, List.getElem?_drop, show a + (k - a) = k by omega]; exact hy)) (fun y hy => by
          have h1 := (List.getElem?_eq_some_iff.1 hy).1
          have h2 := HM.out.2.1
          have h3 := HM.out.2.2.1
          rw [h3, List.length_drop] at h2
          omega), ← HM.out.2.2.1, List.take_of_length_le (by rw [HM.out.2.1]; exact Nat.le_refl _)])
      have hlt' : ¬ (j : Int) < (n2 : Int) := by omega
      clear hlt hcut
      go_wp2_with fail
      go_ret
      rw [HBE.out, HM.out.2.1]
      exact ⟨_, _, rfl, HM.out.1, HK.out.2⟩
end Go.Proofs.YtpcoiakdbfihlaaDoor

/-! A slice of strings that reads as a list of rows of bytes. -/
namespace Go.Proofs.YtpcoiakdbfihlaaDoor
open Go.RowKit

/-- THE SLICE VALUE '.slice A n c' OF STRINGS READS AS l; its row, if it has any, lies in a block of S. -/
structure Strs (w : World) (S : Nat → Prop) (A : Option Addr) (n c : Nat) (l : List (List UInt8)) : Prop where
  len : l.length = n
  cap : n ≤ c
  max : c ≤ maxLen
  row : 0 < n → ∃ b off, A = some ⟨b, off, none⟩ ∧ S b ∧ b < w.heap.size ∧ ∀ i, i < n → w.cell? ⟨b, off + i, none⟩ = some (.string (st (l[i]?.getD [])))
section
variable {w w' : World} {S T : Nat → Prop} {A : Option Addr} {n c : Nat} {l : List (List UInt8)}
theorem Strs.below (h : Strs w S A n c l) (hb : Below w.heap.size w w') : Strs w' S A n c l :=
  ⟨h.len, h.cap, h.max, fun h0 => by
    obtain ⟨b, off, hA, hS, hlt, hc⟩ := h.row h0
    exact ⟨b, off, hA, hS, Nat.lt_of_lt_of_le hlt hb.size, fun i hi => (hb.cell (p := ⟨_, _, none⟩) hlt).trans (hc i hi)⟩⟩
theorem Strs.turned (h : Strs w S A n c l) (ht : Turned T w w') (hd : ∀ b, b < w.heap.size → S b → ¬ T b) : Strs w' S A n c l :=
  ⟨h.len, h.cap, h.max, fun h0 => by
    obtain ⟨b, off, hA, hS, hlt, hc⟩ := h.row h0
    exact ⟨b, off, hA, hS, Nat.lt_of_lt_of_le hlt ht.size, fun i hi => (World.cell?_of_block (w := w) (a := ⟨b, off + i, none⟩) (ht.block b hlt (hd b hlt hS))).trans (hc i hi)⟩⟩
theorem Strs.mono (h : Strs w S A n c l) (hT : ∀ b, b < w.heap.size → S b → T b) : Strs w T A n c l :=
  ⟨h.len, h.cap, h.max, fun h0 => by
    obtain ⟨b, off, hA, hS, hlt, hc⟩ := h.row h0
    exact ⟨b, off, hA, hT b hlt hS, hlt, hc⟩⟩
theorem Strs.drew (h : Strs w S A n c l) : Strs w.drew S A n c l := ⟨h.len, h.cap, h.max, h.row⟩
theorem Strs.drewN (h : Strs w S A n c l) (k : Nat) : Strs (w.drewN k) S A n c l := ⟨h.len, h.cap, h.max, h.row⟩
theorem Strs.nil (w : World) (S : Nat → Prop) (A : Option Addr) (c : Nat) (hc : c ≤ maxLen) : Strs w S A 0 c [] := ⟨rfl, Nat.zero_le _, hc, fun h => absurd h (by omega)⟩
end
def strs (l : List (List UInt8)) : List Value := l.map fun x => .string (st x)
theorem strs_length (l : List (List UInt8)) : (strs l).length = l.length := by simp [strs]
/-- A row of the call's own. -/
theorem own_strs {w : World} {B : Nat} {e : TypeId} {v : Value} {n : Nat} {l : List (List UInt8)} (h : w.ownsRow B e 1 v n (strs l)) : ∃ A c, v = .slice A n c ∧ Strs w (B ≤ ·) A n c l := by
  have hl : l.length = n := by have := h.1; rw [strs_length] at this; omega
  rcases h.2 with ⟨rfl, h2⟩ | ⟨g, cap, cur, rfl, hb, hg, hnc, hm, _, _⟩
  · subst h2
    obtain rfl : l = [] := List.eq_nil_of_length_eq_zero hl
    exact ⟨none, 0, rfl, Strs.nil _ _ _ _ (Nat.zero_le _)⟩
  · refine ⟨_, cap, rfl, hl, hnc, hm, fun _ => ⟨g, 0, rfl, hb, (Array.getElem?_eq_some_iff.1 hg).1, fun i hi => ?_⟩⟩
    have hil : i < l.length := by omega
    have := h.cells (g := g) rfl i (.string (st (l[i]?.getD []))) (by simp [strs, List.getElem?_map, List.getElem?_eq_getElem hil])
    rw [add_plain] at this
    simpa using this
theorem strs_one (l : List (List UInt8)) : ∀ u ∈ strs l, u.oneCell' = true := by
  intro u hu
  obtain ⟨x, _, rfl⟩ := List.mem_map.1 hu
  rfl
/-- What stands in the row that is read, for an append. -/
theorem Strs.news {w : World} {S : Nat → Prop} {b off n c : Nat} {l : List (List UInt8)} (h : Strs w S (some ⟨b, off, none⟩) n c l) (h0 : 0 < n) : ∀ j u, (strs l)[j]? = some u → w.cell? ((⟨b, off, none⟩ : Addr).add j) = some u := by
  intro j u hj
  obtain ⟨b', off', hA, _, _, hc⟩ := h.row h0
  injection hA with hA
  injection hA with e1 e2
  subst e1 e2
  have hjl : j < l.length := by have := (List.getElem?_eq_some_iff.1 hj).1; rwa [strs_length] at this
  rw [add_plain, hc j (by rw [← h.len]; exact hjl), ← hj, strs, List.getElem?_map, List.getElem?_eq_getElem hjl]
  rfl
theorem str_info2 : (Tryd.prog.info? 9).map (fun i => (i.zero, i.size, i.bytes)) = some (some (.string ByteArray.empty), 1, 16) := by kernel_rfl
/-- append of strings to no slice. -/
theorem append_strs {W : World} {S : Nat → Prop} {A : Option Addr} {n c : Nat} {l : List (List UInt8)} (h : Strs W S A n c l) (h0 : 0 < n) (hn : n ≤ 1000000) (ty : TypeId) :
    ∃ g c' W', (Builtin.append_ #[44, 44] ty #[.slice none 0 0, .slice A n c]).run Tryd.prog W = .ok (.slice (some ⟨g, 0, none⟩) n c') W' ∧ W'.ownsRow W.heap.size 9 1 (.slice (some ⟨g, 0, none⟩) n c') n (strs l) ∧ Below W.heap.size W W' := by
  obtain ⟨i0, hi, hz0, hz1, hz2⟩ := info_parts str_info2
  obtain ⟨b, off, rfl, _, _, _⟩ := h.row h0
  obtain ⟨v', W', hrun, r1, r2, _⟩ := run_append_own (P := Tryd.prog) W W.heap.size 44 ty 9 i0 (.string ByteArray.empty) 1 16 Tryd.underlying44 hi hz0 hz1 hz2 rfl (by decide) (.slice none 0 0) 0 [] (World.ownsRow_nil _ _ _ _) ⟨b, off, none⟩ n c (strs l) (by rw [strs_length, h.len, Nat.mul_one]) (h.news h0) (strs_one l) (by unfold maxLen; omega) (by omega) (Nat.le_refl _)
  rw [List.nil_append, Nat.zero_add] at r1
  obtain ⟨g, c', rfl, _⟩ := r1.form h0
  exact ⟨g, c', W', hrun, r1, (Below.refl _ W).grown r2 (Nat.le_refl _) (by intro k hk; simp [Value.ownBlock] at hk)⟩
theorem strs_set (l : List (List UInt8)) (i : Nat) (x : List UInt8) : (strs l).set i (.string (st x)) = strs (l.set i x) := by simp [strs, List.map_set]
end Go.Proofs.YtpcoiakdbfihlaaDoor

/-! Files: the names that stand in a directory. -/
namespace Go.Proofs.YtpcoiakdbfihlaaDoor
open Go.RowKit Codec

def bools (l : List Bool) : List Value := l.map fun x => .bool x
/-- A slice of truths. -/
structure Bls (w : World) (S : Nat → Prop) (A : Option Addr) (n c : Nat) (l : List Bool) : Prop where
  len : l.length = n
  cap : n ≤ c
  max : c ≤ maxLen
  row : 0 < n → ∃ b off, A = some ⟨b, off, none⟩ ∧ S b ∧ b < w.heap.size ∧ ∀ i, i < n → w.cell? ⟨b, off + i, none⟩ = some (.bool (l[i]?.getD false))
theorem Bls.below {w w' : World} {S : Nat → Prop} {A : Option Addr} {n c : Nat} {l : List Bool} (h : Bls w S A n c l) (hb : Below w.heap.size w w') : Bls w' S A n c l :=
  ⟨h.len, h.cap, h.max, fun h0 => by
    obtain ⟨b, off, hA, hS, hlt, hc⟩ := h.row h0
    exact ⟨b, off, hA, hS, Nat.lt_of_lt_of_le hlt hb.size, fun i hi => (hb.cell (p := ⟨_, _, none⟩) hlt).trans (hc i hi)⟩⟩
theorem Bls.mono {w : World} {S T : Nat → Prop} {A : Option Addr} {n c : Nat} {l : List Bool} (h : Bls w S A n c l) (hT : ∀ b, b < w.heap.size → S b → T b) : Bls w T A n c l :=
  ⟨h.len, h.cap, h.max, fun h0 => by
    obtain ⟨b, off, hA, hS, hlt, hc⟩ := h.row h0
    exact ⟨b, off, hA, hT b hlt hS, hlt, hc⟩⟩
theorem own_bls {w : World} {B : Nat} {e : TypeId} {v : Value} {n : Nat} {l : List Bool} (h : w.ownsRow B e 1 v n (bools l)) : ∃ A c, v = .slice A n c ∧ Bls w (B ≤ ·) A n c l := by
  have hl : l.length = n := by have := h.1; simp [bools] at this; omega
  rcases h.2 with ⟨rfl, h2⟩ | ⟨g, cap, cur, rfl, hb, hg, hnc, hm, _, _⟩
  · subst h2
    exact ⟨none, 0, rfl, ⟨hl, Nat.le_refl _, Nat.zero_le _, fun h => absurd h (by omega)⟩⟩
  · refine ⟨_, cap, rfl, hl, hnc, hm, fun _ => ⟨g, 0, rfl, hb, (Array.getElem?_eq_some_iff.1 hg).1, fun i hi => ?_⟩⟩
    have hil : i < l.length := by omega
    have := h.cells (g := g) rfl i (.bool (l[i]?.getD false)) (by simp [bools, List.getElem?_map, List.getElem?_eq_getElem hil])
    rw [add_plain] at this
    simpa using this
theorem own_kept2 {w w' : World} {base : Nat} {e : TypeId} {size : Nat} {v : Value} {n : Nat} {xs : List Value} (h : w.ownsRow base e size v n xs) (hb : ∀ q, v.ownBlock = some q → w'.heap[q]? = w.heap[q]?) : w'.ownsRow base e size v n xs := by
  refine ⟨h.1, ?_⟩
  rcases h.2 with hn | ⟨g, cap, cur, h1, h2, h3, rest⟩
  · exact .inl hn
  · subst h1
    exact .inr ⟨g, cap, cur, rfl, h2, (hb g rfl).trans h3, rest⟩
/-- Names and truths that grow. -/
structure UnS (w0 W : World) (names : List (List UInt8)) (dirs : List Bool) (v7 v8 : Value) : Prop where
  o7 : W.ownsRow w0.heap.size 9 1 v7 names.length (strs names)
  o8 : W.ownsRow w0.heap.size 4 1 v8 dirs.length (bools dirs)
  dj : ∀ g, v7.ownBlock = some g → v8.ownBlock ≠ some g
  bel : Below w0.heap.size w0 W
theorem own_ltB {w : World} {base : Nat} {e : TypeId} {size : Nat} {v : Value} {n : Nat} {xs : List Value} (h : w.ownsRow base e size v n xs) (g : Nat) (hg : v.ownBlock = some g) : base ≤ g ∧ g < w.heap.size := h.lt g hg
theorem UnS.nil (w : World) : UnS w w [] [] (.slice none 0 0) (.slice none 0 0) :=
  ⟨World.ownsRow_nil _ _ _ _, World.ownsRow_nil _ _ _ _, fun g h => by simp [Value.ownBlock] at h, Below.refl _ _⟩
theorem UnS.later {w0 W W' : World} {names : List (List UInt8)} {dirs : List Bool} {v7 v8 : Value} (h : UnS w0 W names dirs v7 v8) (hb : Below W.heap.size W W') : UnS w0 W' names dirs v7 v8 :=
  ⟨own_kept2 h.o7 fun g hg => hb.block g (own_ltB h.o7 g hg).2, own_kept2 h.o8 fun g hg => hb.block g (own_ltB h.o8 g hg).2, h.dj, h.bel.trans (hb.mono h.bel.size)⟩
theorem UnS.v7s {w0 W : World} {names : List (List UInt8)} {dirs : List Bool} {v7 v8 : Value} (h : UnS w0 W names dirs v7 v8) : ∃ A c, v7 = .slice A names.length c ∧ Strs W (w0.heap.size ≤ ·) A names.length c names := own_strs h.o7
theorem UnS.v8s {w0 W : World} {names : List (List UInt8)} {dirs : List Bool} {v7 v8 : Value} (h : UnS w0 W names dirs v7 v8) : ∃ A c, v8 = .slice A dirs.length c ∧ Bls W (w0.heap.size ≤ ·) A dirs.length c dirs := own_bls h.o8
theorem bool_info : (Tryd.prog.info? 4).map (fun i => (i.zero, i.size, i.bytes)) = some (some (.bool false), 1, 1) := by kernel_rfl
theorem UnS.name {w0 W : World} {names : List (List UInt8)} {dirs : List Bool} {v7 v8 : Value} (h : UnS w0 W names dirs v7 v8) (nm : List UInt8) (hl : names.length ≤ 1000000) :
    ∃ A' c' W', (Builtin.append_ #[44, 44] 44 #[v7, .slice (some ⟨W.heap.size, 0, none⟩) 1 1]).run Tryd.prog (W.alloc (.cells #[.string (st nm)] 9)) = .ok (.slice A' (names.length + 1) c') W' ∧ UnS w0 W' (names ++ [nm]) dirs (.slice A' (names.length + 1) c') v8 := by
  obtain ⟨i0, hi, hz0, hz1, hz2⟩ := info_parts str_info2
  have h1 := h.later ((Below.refl _ W).alloc (Nat.le_refl _) (.cells #[.string (st nm)] 9))
  obtain ⟨v', W', hr, g1, g2, _, g4⟩ := run_append_own_at (P := Tryd.prog) (W.alloc (.cells #[.string (st nm)] 9)) w0.heap.size 44 44 9 i0 (.string ByteArray.empty) 1 16 Tryd.underlying44 hi hz0 hz1 hz2 rfl (by decide) v7 names.length (strs names) h1.o7 ⟨W.heap.size, 0, none⟩ 1 1 [.string (st nm)] rfl
    (fun j u hj => by
      match j, hj with
      | 0, hj =>
        rw [add_plain, cell_of_cells (heap_alloc_new W _)]
        simpa using hj) (one_of rfl) (by unfold maxLen; omega) (by omega) (by have := h.bel.size; simp; omega)
  obtain ⟨A', c', rfl⟩ : ∃ A' c', v' = .slice A' (names.length + 1) c' := by
    obtain ⟨_, e2⟩ := g1
    rcases e2 with ⟨_, e2⟩ | ⟨g', cap, cur, rfl, _⟩
    · omega
    · exact ⟨_, _, rfl⟩
  have hlt := own_ltB h1.o7
  have hlt8 := own_ltB h1.o8
  have h8 := own_ltB h.o8
  refine ⟨A', c', W', hr, by simpa [strs] using g1, own_kept2 h1.o8 fun g hg => g2.block g (hlt8 g hg).2 (fun e => h1.dj g e.symm hg), fun g hg => ?_, h1.bel.grown g2 h1.bel.size fun g hg => (hlt g hg).1⟩
  rcases g4 with e | e
  · rw [e] at hg
    exact h1.dj g hg
  · rw [e] at hg
    injection hg with hg
    intro h9
    have := (h8 g h9).2
    simp at hg
    omega
theorem UnS.dir {w0 W : World} {names : List (List UInt8)} {dirs : List Bool} {v7 v8 : Value} (h : UnS w0 W names dirs v7 v8) (d : Bool) (hl : dirs.length ≤ 1000000) :
    ∃ A' c' W', (Builtin.append_ #[45, 45] 45 #[v8, .slice (some ⟨W.heap.size, 0, none⟩) 1 1]).run Tryd.prog (W.alloc (.cells #[.bool d] 4)) = .ok (.slice A' (dirs.length + 1) c') W' ∧ UnS w0 W' names (dirs ++ [d]) v7 (.slice A' (dirs.length + 1) c') := by
  obtain ⟨i0, hi, hz0, hz1, hz2⟩ := info_parts bool_info
  have h1 := h.later ((Below.refl _ W).alloc (Nat.le_refl _) (.cells #[.bool d] 4))
  obtain ⟨v', W', hr, g1, g2, _, g4⟩ := run_append_own_at (P := Tryd.prog) (W.alloc (.cells #[.bool d] 4)) w0.heap.size 45 45 4 i0 (.bool false) 1 1 Tryd.underlying45 hi hz0 hz1 hz2 rfl (by decide) v8 dirs.length (bools dirs) h1.o8 ⟨W.heap.size, 0, none⟩ 1 1 [.bool d] rfl
    (fun j u hj => by
      match j, hj with
      | 0, hj =>
        rw [add_plain, cell_of_cells (heap_alloc_new W _)]
        simpa using hj) (one_of rfl) (by unfold maxLen; omega) (by omega) (by have := h.bel.size; simp; omega)
  obtain ⟨A', c', rfl⟩ : ∃ A' c', v' = .slice A' (dirs.length + 1) c' := by
    obtain ⟨_, e2⟩ := g1
    rcases e2 with ⟨_, e2⟩ | ⟨g', cap, cur, rfl, _⟩
    · omega
    · exact ⟨_, _, rfl⟩
  have hlt := own_ltB h1.o8
  have hlt7 := own_ltB h1.o7
  have h7 := own_ltB h.o7
  refine ⟨A', c', W', hr, own_kept2 h1.o7 fun g hg => g2.block g (hlt7 g hg).2 (fun e => h1.dj g hg e.symm), by simpa [bools] using g1, fun g hg h9 => ?_, h1.bel.grown g2 h1.bel.size fun g hg => (hlt g hg).1⟩
  rcases g4 with e | e
  · rw [e] at h9
    exact h1.dj g hg h9
  · rw [e] at h9
    injection h9 with h9
    have := (h7 g hg).2
    simp at h9
    omega
end Go.Proofs.YtpcoiakdbfihlaaDoor
