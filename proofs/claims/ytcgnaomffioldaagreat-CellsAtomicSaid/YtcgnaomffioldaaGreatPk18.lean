/-
  Cells: the changes behind a record of all, done; what may be read.
  Cells: Open.
  Cells: the record of all, written; a map's copy.
-/
import Derived.Test.YtcgnaomffioldaaGreatPk17
import Derived.Test.YtcgnaomffioldaaGreatPk05
import Derived.Test.YtcgnaomffioldaaGreatPk08
import Derived.Test.YtcgnaomffioldaaGreatPk04
/-! Cells: the changes behind a record of all, done; what may be read. -/
namespace Go.Proofs.YtcgnaomffioldaaGreat
open Go.RowKit Codec

/-- What is read of changes may be; how much it is. -/
theorem rcGo_may : ∀ (n : Nat) (acc : List Ch) (l : List UInt8) (e : Int) {a : List Ch} {l' : List UInt8} {e' : Int}, rcGo n acc l e = some (a, l', e') → (∀ x ∈ acc, mayC x = true) → (∀ x ∈ a, mayC x = true) ∧ a.length + l'.length ≤ acc.length + l.length ∧ wtC a + 22 * l'.length ≤ wtC acc + 22 * l.length
  | 0, acc, l, e, a, l', e', h, hm => by
    rw [rcGo] at h
    simp only [Option.some.injEq, Prod.mk.injEq] at h
    obtain ⟨rfl, rfl, rfl⟩ := h
    exact ⟨hm, Nat.le_refl _, Nat.le_refl _⟩
  | n + 1, acc, l, e, a, l', e', h, hm => by
    rw [rcGo] at h
    split at h
    · cases h
    · rename_i hx
      have hx' : mayC (rc1 l e).1 = true := by simpa using hx
      have ht := rc1_take hx'
      obtain ⟨h1, h2, h3⟩ := rcGo_may n _ _ _ h (fun x hx => by
        rcases List.mem_append.1 hx with hx | hx
        · exact hm x hx
        · simp only [List.mem_singleton] at hx
          rw [hx]
          exact hx')
      refine ⟨h1, ?_, ?_⟩
      · rw [List.length_append, List.length_singleton] at h2
        omega
      · rw [wtC_app] at h3
        simp only [wtC] at h3
        omega
theorem rcM_may {b : List UInt8} {a : List Ch} (h : rcM b = some a) : (∀ x ∈ a, mayC x = true) ∧ a.length ≤ b.length ∧ wtC a ≤ 22 * b.length := by
  unfold rcM at h
  split at h
  · cases h
  · rcases hg : rcGo (uiX (uiL b 0) (uiE b 0)) [] (uiL (uiL b 0) (uiE b 0)) (uiE (uiL b 0) (uiE b 0)) with _ | ⟨a', l', e'⟩
    · rw [hg, rcEnd] at h; cases h
    · rw [hg, rcEnd] at h
      split at h
      · injection h with h
        subst h
        obtain ⟨h1, h2, h3⟩ := rcGo_may _ _ _ _ hg (by simp)
        have h4 := uiL_length b 0
        have h5 := uiL_length (uiL b 0) (uiE b 0)
        simp only [List.length_nil, wtC] at h2 h3
        exact ⟨h1, by omega, by omega⟩
      · cases h
theorem raGo_may : ∀ (n : Nat) (t : Tb) (last l : List UInt8) (e : Int) {a : Tb} {l' : List UInt8} {e' : Int}, raGo n t last l e = some (a, l', e') → a.length + l'.length ≤ t.length + l.length ∧ wtT a + 22 * l'.length ≤ wtT t + 22 * l.length
  | 0, t, last, l, e, a, l', e', h => by
    rw [raGo] at h
    simp only [Option.some.injEq, Prod.mk.injEq] at h
    obtain ⟨rfl, rfl, rfl⟩ := h
    exact ⟨Nat.le_refl _, Nat.le_refl _⟩
  | n + 1, t, last, l, e, a, l', e', h => by
    rw [raGo] at h
    split at h
    · cases h
    · rename_i hx
      have hne : byB l e 64 ≠ [] := fun e1 => hx (by rw [e1]; exact List.nil_le _)
      have ht := (by_take l e 64 (.inl hne)).2
      obtain ⟨h2, h3⟩ := raGo_may n _ _ _ _ h
      have hv : (byL (byL l e 64) (byE l e 64) 4096).length + (byB (byL l e 64) (byE l e 64) 4096).length ≤ (byL l e 64).length := by
        by_cases h0 : byE (byL l e 64) (byE l e 64) 4096 = 0
        · have := (by_take _ _ 4096 (.inr h0)).2
          omega
        · rw [by_bad h0]
          have := byL_len (byL l e 64) (byE l e 64) 4096
          simpa using this
      refine ⟨?_, ?_⟩
      · rw [List.length_append, List.length_singleton] at h2
        omega
      · rw [wtT_app] at h3
        simp only [wtT] at h3
        omega
theorem raM_may {b : List UInt8} {a : Tb} (h : raM b = some a) : a.length ≤ b.length ∧ wtT a ≤ 22 * b.length := by
  unfold raM at h
  split at h
  · cases h
  · rcases hg : raGo (uiX (uiL b 0) (uiE b 0)) [] [] (uiL (uiL b 0) (uiE b 0)) (uiE (uiL b 0) (uiE b 0)) with _ | ⟨a', l', e'⟩
    · rw [hg, raEnd] at h; cases h
    · rw [hg, raEnd] at h
      split at h
      · injection h with h
        subst h
        obtain ⟨h2, h3⟩ := raGo_may _ _ _ _ _ hg
        have h4 := uiL_length b 0
        have h5 := uiL_length (uiL b 0) (uiE b 0)
        simp only [List.length_nil, wtT] at h2 h3
        exact ⟨by omega, by omega⟩
      · cases h
/-- While they are done. -/
def UpR (w : World) (S : Nat → Prop) (mb : Nat) (t : Tb) (bs : List (List UInt8)) (i : Value) (wr : World) : Prop :=
  ∃ (j : Nat) (t' : Tb), j ≤ bs.length ∧ i = .int .i64 (j : Int) ∧ upM t bs = upM t' (bs.drop j) ∧ Nms wr (fun k => S k ∨ (w.heap.size ≤ k ∧ k < wr.heap.size)) mb t' ∧ Turned (fun k => k = mb) w wr ∧ t'.length ≤ t.length + 10000000 * j
def UpPost (w : World) (S : Nat → Prop) (mb : Nat) (r : Option Tb) (e : Ending) (w' : World) : Prop :=
  (match r with
   | none => e = .returned (.int .i64 37)
   | some t' => e = .returned (.int .i64 0) ∧ Nms w' (fun k => S k ∨ (w.heap.size ≤ k ∧ k < w'.heap.size)) mb t') ∧ Turned (fun k => k = mb) w w'
set_option maxHeartbeats 4000000 in
set_option maxRecDepth 100000 in
theorem catchup_any {w : World} {S U : Nat → Prop} {x q mb : Nat} {cnt : Bool} {A : Option Addr} {n c : Nat} {t : Tb} {bs : List (List UInt8)} (hx : w.heap[x]? = some (.cells #[.pointer (some ⟨q, 0, none⟩), .bool cnt, .map (some mb), .slice A n c] 79 (0, 0))) (hm : Nms w S mb t) (hr : Rws w U A n c bs)
    (hxm : x ≠ mb) (hU : ∀ k, k < w.heap.size → U k → k ≠ mb) (hf : bs.length ≤ 65536 ∧ t.length ≤ 10000000) (hb : ∀ b ∈ bs, b.length ≤ 10000000) :
    Calls Tryz.prog 32 #[.pointer (some ⟨x, 0, none⟩)] w fun e w' => UpPost w S mb (upM t bs) e w' := by
  have hc3 : w.cell? ⟨x, 3, none⟩ = some (.slice A n c) := cell_of_cells hx 3
  have H0 : Hid (UpR w S mb t bs (.int .i64 0) w) := Lib.hid ⟨0, t, Nat.zero_le _, rfl, by rw [List.drop_zero], hm.mono (T := fun k => S k ∨ (w.heap.size ≤ k ∧ k < w.heap.size)) fun k _ h => .inl h, Turned.refl _ _, by omega⟩
  have HL := Lib.hid (And.intro hx (And.intro hr (And.intro hxm (And.intro hU (And.intro hf (And.intro hb hm.lt))))))
  have hbig : n ≤ 65536 := by have := hr.len; omega
  have HN := Lib.hid hr.len
  clear hx hm hr hxm hU hf hb
  go_enter Tryz.func32, Tryz.ntmps32
  go_wp2_with fail
  go_loopw [12] (fun i wr => UpR w S mb t bs i wr) (fun i _ => n - (intOf i).toNat)
  case atStart => exact H0.out
  case round =>
    clear hc3
    obtain ⟨j, t', hj, rfl, hup, hnm, htn, htl⟩ := hrel
    clear H0
    have HK := Lib.hid (And.intro hup (And.intro hnm (And.intro htn htl)))
    clear hup hnm htn htl
    by_cases hlt : j < n
    · have hlt' : (j : Int) < (n : Int) := by omega
      obtain ⟨b0, off0, rfl, hub, hblt, hcl⟩ := HL.out.2.1.row (by omega)
      obtain ⟨A0, n0, c0, hc0, hy0⟩ := hcl j hlt
      have hbm := HL.out.2.2.2.1 b0 hblt hub
      have hcw : wr.cell? ⟨b0, off0 + j, none⟩ = some (.slice A0 n0 c0) := (cell_turned HK.out.2.2.1 hblt hbm _).trans hc0
      obtain ⟨B, hB⟩ : ∃ B, bs[j]? = some B := ⟨_, List.getElem?_eq_getElem (by have := HN.out; omega)⟩
      have hBe : bs[j]?.getD [] = B := by rw [hB]; rfl
      rw [hBe] at hy0
      have hBl := HL.out.2.2.2.2.2.1 B (List.mem_of_getElem? hB)
      have hyw := hy0.turned HK.out.2.2.1 (fun k hk h1 h2 => HL.out.2.2.2.1 k hk h1 h2)
      have hrd := readchs_any hyw (by have := hy0.len; omega)
      have hadd := IntWalk.i64_in ((j : Int) + 1) (by omega)
      have hdr : bs.drop j = B :: bs.drop (j + 1) := by
        obtain ⟨hjl, hxe⟩ := List.getElem?_eq_some_iff.1 hB
        rw [List.drop_eq_getElem_cons hjl, hxe]
      have HX := Lib.hid (And.intro hdr hBl)
      have hcx : wr.heap[x]? = some (.cells #[.pointer (some ⟨q, 0, none⟩), .bool cnt, .map (some mb), .slice (some ⟨b0, off0, none⟩) n c] 79 (0, 0)) := (HK.out.2.2.1.block _ (lt_of_cells HL.out.1) HL.out.2.2.1).trans HL.out.1
      have HCX := Lib.hid hcx
      clear hub hblt hcl hc0 hy0 hbm hB hBe hBl hyw hdr hcx
      rcases hrc : rcM B with _ | l
      · rw [hrc] at hrd
        have HRC := Lib.hid hrc
        clear hrc
        go_wp2_with (go_at_call 57; refine hrd.mono ?_; clear hrd; rintro _ w5 ⟨rfl, hb5⟩; have H5 := Lib.hid hb5; clear hb5)
        go_ret
        have hr : upM t bs = none := by rw [HK.out.1, HX.out.1, upM, HRC.out]
        rw [hr]
        exact ⟨rfl, HK.out.2.2.1.trans (Turned.of_below (S := fun k => k = mb) H5.out) fun _ _ h => h⟩
      · rw [hrc] at hrd
        have HRC := Lib.hid hrc
        clear hrc
        go_upto_region 7 with (go_at_call 57; refine hrd.mono ?_; clear hrd; rintro _ w5 ⟨⟨A5, c5, rfl, hcs5⟩, hb5⟩; have H5 := Lib.hid (And.intro hb5 (hcs5.mono (T := fun k => wr.heap.size ≤ k ∧ k < w5.heap.size) fun k hk h => ⟨h, hk⟩)); clear hcs5 hb5)
        have hmay := rcM_may HRC.out
        have hc2 : w5.cell? ⟨x, 2, none⟩ = some (.map (some mb)) := by rw [cell_of_cells ((H5.out.1.block _ (lt_of_cells HCX.out)).trans HCX.out)]; rfl
        have hmb := HK.out.2.1.lt
        have hdo := do_any (HK.out.2.1.below H5.out.1) H5.out.2 (fun k _ h e => by omega) ⟨by have h1 := HK.out.2.2.2; have h2 := HL.out.2.2.2.2.1.2; have h3 := HX.out.2; have h4 := hmay.2.1; omega, by have h3 := HX.out.2; have h4 := hmay.2.1; omega⟩ (fun y hy => by have h1 := may_small (hmay.1 y hy); exact ⟨by omega, by omega⟩)
        have HM := Lib.hid hmay
        clear hmay hmb
        go_wp2_with (go_at_call 38; refine hdo.mono ?_; clear hdo; rintro _ w6 ⟨rfl, hn6, ht6⟩; have H6 := Lib.hid (And.intro hn6 ht6); clear hn6 ht6)
        go_roundw
        case rel =>
          unfold UpR
          have h5s := H5.out.1.size
          have h6s := H6.out.2.size
          have hws := HK.out.2.2.1.size
          refine ⟨j + 1, doL t' l, by have := HN.out; omega, by simp, ?_, ?_, (HK.out.2.2.1.trans (Turned.of_below (S := fun k => k = mb) H5.out.1) fun _ _ h => h).trans H6.out.2 fun _ _ h => h, ?_⟩
          · rw [HK.out.1, HX.out.1, upM, HRC.out]
          · refine H6.out.1.mono fun k hk h => ?_
            rcases h with (h | h) | h
            · exact .inl h
            · exact .inr ⟨h.1, hk⟩
            · exact .inr ⟨by omega, hk⟩
          · have h1 := doL_len t' HK.out.2.1.srt l
            have h2 := HK.out.2.2.2
            have h3 := HM.out.2.1
            have h4 := HX.out.2
            omega
        case measure => simp only [intOf]; omega
    · obtain rfl : j = n := by have := HN.out; omega
      have hnl : ¬ (j : Int) < (j : Int) := by omega
      clear hlt
      go_wp2_with fail
      go_ret
      have hr : upM t bs = some t' := by rw [HK.out.1, List.drop_of_length_le (by have := HN.out; omega), upM]
      rw [hr]
      exact ⟨⟨rfl, HK.out.2.1⟩, HK.out.2.2.1⟩
end Go.Proofs.YtcgnaomffioldaaGreat

/-! Cells: Open. -/
namespace Go.Proofs.YtcgnaomffioldaaGreat
open Go.RowKit Codec

/-- A half that was found. -/
structure H1 (w : World) (g : Nat) (m : LM) (x y : Nat) (q : Nat) (cnt : Bool) (mo : Option Nat) (A : Option Addr) (n c : Nat) : Prop where
  hf : ∃ a b, Hf w g m x a b y q cnt (.map mo) A n c
theorem H1.turned {T : Nat → Prop} {w w' : World} {g : Nat} {m : LM} {x y q : Nat} {cnt : Bool} {mo : Option Nat} {A : Option Addr} {n c : Nat} (h : H1 w g m x y q cnt mo A n c) (ht : Turned T w w') (hd : ∀ k, k < w.heap.size → x ≤ k → k < y → ¬ T k) : H1 w' g m x y q cnt mo A n c := by
  obtain ⟨a, b, h⟩ := h.hf
  exact ⟨a, b, h.turned ht hd⟩
theorem H1.below {w w' : World} {g : Nat} {m : LM} {x y q : Nat} {cnt : Bool} {mo : Option Nat} {A : Option Addr} {n c : Nat} (h : H1 w g m x y q cnt mo A n c) (hb : Below w.heap.size w w') : H1 w' g m x y q cnt mo A n c :=
  h.turned (T := fun _ => False) (Turned.of_below hb) fun _ _ _ _ h => h
theorem Hf.mo {w : World} {g : Nat} {m : LM} {x a b y q : Nat} {cnt : Bool} {mv : Value} {A : Option Addr} {n c : Nat} (h : Hf w g m x a b y q cnt mv A n c) : ∃ mo, mv = .map mo := by
  rcases hm : allM m with _ | t
  · exact ⟨none, h.no hm⟩
  · obtain ⟨mb, h1, _⟩ := h.yes t hm
    exact ⟨some mb, h1⟩
/-- Where Open stands: the array of halves in block xf. -/
def OpR (w : World) (g xf : Nat) (d : DM) (i : Value) (wr : World) : Prop :=
  Below w.heap.size w wr ∧ w.heap.size ≤ xf ∧
  ((i = .int .i64 0 ∧ wr.heap[xf]? = some (.cells #[.pointer none, .bool false, .map none, .slice none 0 0, .pointer none, .bool false, .map none, .slice none 0 0] 80 (0, 0))) ∨
   (i = .int .i64 1 ∧ d.down = false ∧ ∃ x y q c b A n k, wr.heap[xf]? = some (.cells #[.pointer (some ⟨q, 0, none⟩), .bool c, .map b, .slice A n k, .pointer none, .bool false, .map none, .slice none 0 0] 80 (0, 0)) ∧ xf < x ∧ y ≤ wr.heap.size ∧ H1 wr g (halfM d 0) x y q c b A n k) ∨
   (i = .int .i64 2 ∧ d.down = false ∧ ∃ x y q c b A n k x' y' q' c' b' A' n' k', wr.heap[xf]? = some (.cells #[.pointer (some ⟨q, 0, none⟩), .bool c, .map b, .slice A n k, .pointer (some ⟨q', 0, none⟩), .bool c', .map b', .slice A' n' k'] 80 (0, 0)) ∧ xf < x ∧ y ≤ x' ∧ y' ≤ wr.heap.size ∧ H1 wr g (halfM d 0) x y q c b A n k ∧ H1 wr g (halfM d 1) x' y' q' c' b' A' n' k'))
theorem cntM_cases (c0 c1 : Bool) (f0 f1 : Nat) : (cntM c0 c1 f0 f1 = -1 ∧ c0 = false ∧ c1 = false) ∨ (cntM c0 c1 f0 f1 = 0 ∧ c0 = true) ∨ (cntM c0 c1 f0 f1 = 1 ∧ c1 = true) := by
  unfold cntM
  cases c0 <;> cases c1 <;> by_cases h : f0 < f1 <;> simp [h]
/-- What Open tells. -/
def MadeC (w : World) (g : Nat) (r : SM × Int) (e : Ending) (w' : World) : Prop :=
  (if r.2 = 0 then ∃ p, e = .returned (.tuple #[.pointer (some ⟨p, 0, none⟩), .int .i64 0]) ∧ Cs w' (w.heap.size ≤ ·) p g r.1 else e = .returned (.tuple #[.pointer none, .int .i64 r.2])) ∧ Below w.heap.size w w'
theorem hn_err {d : DM} (h1 : 1 ≤ hn d) (i : Nat) (hi : i ≤ 1) : openErr d.l.length d.down ((i * hn d : Nat) : Int) ((hn d : Nat) : Int) = if d.down then 30 else 0 := by
  have h2 : hn d = d.l.length / 2 := rfl
  refine openErr_ok ?_
  have h3 : i * hn d ≤ hn d := by rcases Nat.le_one_iff_eq_zero_or_eq_one.1 hi with rfl | rfl <;> omega
  generalize i * hn d = f at *
  generalize hn d = n at *
  omega
set_option maxHeartbeats 8000000 in
set_option maxRecDepth 100000 in
theorem copen_nil (w : World) : Calls Tryz.prog 8 #[.pointer none] w fun e w' => e = .returned (.tuple #[.pointer none, .int .i64 1]) ∧ w = w' := by
  have hs := size_nil w
  go_enter Tryz.func8, Tryz.ntmps8
  go_wp2_with (go_at_call 27; refine hs.mono ?_; clear hs; rintro _ _ ⟨rfl, rfl⟩)
  go_ret2
  exact ⟨rfl, rfl⟩
set_option maxHeartbeats 8000000 in
set_option maxRecDepth 100000 in
theorem copen_small {w : World} {S : Nat → Prop} {g : Nat} {d : DM} (hd : Dk w S g d) (h1 : hn d < 1) :
    Calls Tryz.prog 8 #[.pointer (some ⟨g, 0, none⟩)] w fun e w' => MadeC w g (openC d) e w' := by
  have hs : Calls _ _ _ _ _ := size_any hd
  have hh : d.l.length / 2 = 0 := by have : hn d = d.l.length / 2 := rfl; omega
  rw [hh] at hs
  have hr : openC d = (⟨[], 0, lm0, 0, 0⟩, 1) := by unfold openC; rw [if_pos h1]
  rw [hr]
  clear hd h1 hh hr
  go_enter Tryz.func8, Tryz.ntmps8
  go_wp2_with (go_at_call 27; refine hs.mono ?_; clear hs; rintro _ _ ⟨rfl, rfl⟩)
  go_ret2
  exact ⟨rfl, Below.refl _ _⟩
set_option maxHeartbeats 8000000 in
set_option maxRecDepth 100000 in
theorem copen_run {w : World} {S : Nat → Prop} {g : Nat} {d : DM} (hd : Dk w S g d) (h1 : 1 ≤ hn d) :
    Calls Tryz.prog 8 #[.pointer (some ⟨g, 0, none⟩)] w fun e w' => MadeC w g (openC d) e w' := by
  have hs : Calls _ _ _ _ _ := size_any hd
  have hh : d.l.length / 2 = hn d := rfl
  rw [hh] at hs
  have hfew := hd.few
  have hge : ¬ (hn d : Int) < 1 := by omega
  have hz2 := zero_half2
  have HD := Lib.hid (And.intro hd (And.intro h1 hfew))
  have hna : Below w.heap.size w (w.alloc (.cells #[.pointer none, .bool false, .map none, .slice none 0 0, .pointer none, .bool false, .map none, .slice none 0 0] 80)) := (Below.refl _ _).alloc (Nat.le_refl _) _
  have H0 : Hid (OpR w g w.heap.size d (.int .i64 0) (w.alloc (.cells #[.pointer none, .bool false, .map none, .slice none 0 0, .pointer none, .bool false, .map none, .slice none 0 0] 80))) := Lib.hid ⟨hna, Nat.le_refl _, .inl ⟨rfl, heap_alloc_new w _⟩⟩
  obtain ⟨N, hN⟩ : ∃ N, N = hn d := ⟨_, rfl⟩
  rw [← hN] at hs hge
  have hge' : decide ((N : Int) < 1) = false := by simpa using hge
  clear hd h1 hh hfew hna hN hge
  go_enter Tryz.func8, Tryz.ntmps8
  go_upto_region 5 with (go_at_call 27; refine hs.mono ?_; clear hs; rintro _ _ ⟨rfl, rfl⟩)
  have hzh := zero_half
  go_loopw [16] (fun i wr => OpR w g w.heap.size d i wr) (fun i _ => 2 - (intOf i).toNat)
  case atStart => exact H0.out
  case round =>
    obtain ⟨hb, _, hrel⟩ := hrel
    clear H0 hz2
    rcases hrel with ⟨rfl, hrow⟩ | ⟨rfl, hdn1, x0, y0, q0, c0, b0, A0, n0, k0, hrow, hx1, hy1, hh1⟩ | ⟨rfl, hdn2, x0, y0, q0, c0, b0, A0, n0, k0, x1, y1, q1, c1, b1, A1, n1, k1, hrow, hx1, hx2, hy2, hh1, hh2⟩
    · skip
      have hfd := find_any (HD.out.1.below hb) 0 (by omega) HD.out.2.1
      have herr := hn_err HD.out.2.1 0 (by omega)
      unfold FdPost hfV hzV at hfd
      rw [herr] at hfd
      have hbw := Lib.hid (And.intro hb hrow)
      clear hb hrow herr
      cases hdn : d.down
      · rw [hdn] at hfd
        simp only [Bool.false_eq_true, if_false, if_true] at hfd
        have HDN := Lib.hid hdn
        clear hdn
        go_upto_region 10 with (go_at_call 28; refine hfd.mono ?_; clear hfd; rintro _ w2 ⟨⟨a0, bb0, q0, c0, mv, A0, n0, k0, rfl, hf⟩, hb2⟩; obtain ⟨b0, rfl⟩ := hf.mo; have H2 := Lib.hid (And.intro (H1.mk ⟨a0, bb0, hf⟩) hb2); clear hf hb2)
        have hrow2 := (H2.out.2.block _ (lt_of_cells hbw.out.2)).trans hbw.out.2
        have hxl : w.heap.size < w2.heap.size := lt_of_cells hrow2
        have hal : Below w2.heap.size w2 (w2.alloc (.cells #[.pointer (some ⟨q0, 0, none⟩), .bool c0, .map b0, .slice A0 n0 k0] 79)) := (Below.refl w2.heap.size w2).alloc (Nat.le_refl _) _
        have hrow3 := (hal.block _ hxl).trans hrow2
        have HR3 := Lib.hid (And.intro hal (And.intro hrow3 hxl))
        have hc0 := cell_of_cells hrow3 0
        have hf0 := free_of_cells hrow3 0
        have hc1 := cell_of_cells hrow3 1
        have hf1 := free_of_cells hrow3 1
        have hc2 := cell_of_cells hrow3 2
        have hf2 := free_of_cells hrow3 2
        have hc3 := cell_of_cells hrow3 3
        have hf3 := free_of_cells hrow3 3
        have hadd := IntWalk.i64_in (0 + 1) (by omega)
        clear hrow2 hrow3 hal hxl hzh
        go_wp2_with fail
        go_roundw
        case rel =>
          have hrow3 := HR3.out.2.1
          have hts : Turned (fun k => k = w.heap.size) (w2.alloc (.cells #[.pointer (some ⟨q0, 0, none⟩), .bool c0, .map b0, .slice A0 n0 k0] 79)) (((((w2.alloc (.cells #[.pointer (some ⟨q0, 0, none⟩), .bool c0, .map b0, .slice A0 n0 k0] 79)).setCell ⟨w.heap.size, 0, none⟩ (.pointer (some ⟨q0, 0, none⟩))).setCell ⟨w.heap.size, 1, none⟩ (.bool c0)).setCell ⟨w.heap.size, 2, none⟩ (.map b0)).setCell ⟨w.heap.size, 3, none⟩ (.slice A0 n0 k0)) := (((((Turned.refl (fun k => k = w.heap.size) _).set rfl 0 _).set rfl 1 _).set rfl 2 _).set rfl 3 _)
          have htw : Turned (fun k => k = w.heap.size) w2 (((((w2.alloc (.cells #[.pointer (some ⟨q0, 0, none⟩), .bool c0, .map b0, .slice A0 n0 k0] 79)).setCell ⟨w.heap.size, 0, none⟩ (.pointer (some ⟨q0, 0, none⟩))).setCell ⟨w.heap.size, 1, none⟩ (.bool c0)).setCell ⟨w.heap.size, 2, none⟩ (.map b0)).setCell ⟨w.heap.size, 3, none⟩ (.slice A0 n0 k0)) := (Turned.of_below (S := fun k => k = w.heap.size) HR3.out.1).trans hts fun _ _ h => h
          have hwb : w.heap.size < wr.heap.size := lt_of_cells hbw.out.2
          have h2s := H2.out.2.size
          refine ⟨(hbw.out.1.trans (H2.out.2.mono hbw.out.1.size)).trans ((htw.mono (T := (w.heap.size ≤ ·)) fun k _ h => by have h' : k = w.heap.size := h; omega).below (by omega)), Nat.le_refl _, .inr (.inl ⟨rfl, HDN.out, wr.heap.size, w2.heap.size, q0, c0, b0, A0, n0, k0, (set_of_cells (set_of_cells (set_of_cells (set_of_cells hrow3 0 (.pointer (some ⟨q0, 0, none⟩))) 1 (.bool c0)) 2 (.map b0)) 3 (.slice A0 n0 k0)), hwb, ?_, H2.out.1.turned htw fun k _ h1 _ h2 => by have h2' : k = w.heap.size := h2; omega⟩)⟩
          simp
        case measure => simp only [intOf]; omega
      · rw [hdn] at hfd
        simp only [if_true] at hfd
        have HDN := Lib.hid hdn
        clear hdn
        go_wp2_with (go_at_call 28; refine hfd.mono ?_; clear hfd; rintro _ w2 ⟨hf, hb2⟩; rw [if_neg (by decide)] at hf; subst hf; have H2 := Lib.hid hb2; clear hb2)
        go_ret2
        have hr : openC d = (⟨[], 0, lm0, 0, 0⟩, 30) := by unfold openC; rw [if_neg (by have := HD.out.2.1; omega), if_pos HDN.out]
        rw [hr]
        refine ⟨?_, (hbw.out.1.trans (H2.out.mono hbw.out.1.size)).alloc (by have h1 := hbw.out.1.size; have h2 := H2.out.size; omega) _⟩
        rw [if_neg (by decide)]
        rfl
    · skip
      have HH := Lib.hid (And.intro hx1 (And.intro hy1 hh1))
      clear hx1 hy1 hh1 hdn1
      have hfd := find_any (HD.out.1.below hb) 1 (by omega) HD.out.2.1
      have herr := hn_err HD.out.2.1 1 (by omega)
      unfold FdPost hfV hzV at hfd
      rw [herr] at hfd
      have hbw := Lib.hid (And.intro hb hrow)
      clear hb hrow herr
      cases hdn : d.down
      · rw [hdn] at hfd
        simp only [Bool.false_eq_true, if_false, if_true] at hfd
        have HDN := Lib.hid hdn
        clear hdn
        go_upto_region 10 with (go_at_call 28; refine hfd.mono ?_; clear hfd; rintro _ w2 ⟨⟨a1, bb1, q1, c1, mv, A1, n1, k1, rfl, hf⟩, hb2⟩; obtain ⟨b1, rfl⟩ := hf.mo; have H2 := Lib.hid (And.intro (H1.mk ⟨a1, bb1, hf⟩) hb2); clear hf hb2)
        have hrow2 := (H2.out.2.block _ (lt_of_cells hbw.out.2)).trans hbw.out.2
        have hxl : w.heap.size < w2.heap.size := lt_of_cells hrow2
        have hal : Below w2.heap.size w2 (w2.alloc (.cells #[.pointer (some ⟨q1, 0, none⟩), .bool c1, .map b1, .slice A1 n1 k1] 79)) := (Below.refl w2.heap.size w2).alloc (Nat.le_refl _) _
        have hrow3 := (hal.block _ hxl).trans hrow2
        have HR3 := Lib.hid (And.intro hal (And.intro hrow3 hxl))
        have hc0 := cell_of_cells hrow3 4
        have hf0 := free_of_cells hrow3 4
        have hc1 := cell_of_cells hrow3 5
        have hf1 := free_of_cells hrow3 5
        have hc2 := cell_of_cells hrow3 6
        have hf2 := free_of_cells hrow3 6
        have hc3 := cell_of_cells hrow3 7
        have hf3 := free_of_cells hrow3 7
        have hadd := IntWalk.i64_in (1 + 1) (by omega)
        clear hrow2 hrow3 hal hxl hzh
        go_wp2_with fail
        go_roundw
        case rel =>
          have hrow3 := HR3.out.2.1
          have hts : Turned (fun k => k = w.heap.size) (w2.alloc (.cells #[.pointer (some ⟨q1, 0, none⟩), .bool c1, .map b1, .slice A1 n1 k1] 79)) (((((w2.alloc (.cells #[.pointer (some ⟨q1, 0, none⟩), .bool c1, .map b1, .slice A1 n1 k1] 79)).setCell ⟨w.heap.size, 4, none⟩ (.pointer (some ⟨q1, 0, none⟩))).setCell ⟨w.heap.size, 5, none⟩ (.bool c1)).setCell ⟨w.heap.size, 6, none⟩ (.map b1)).setCell ⟨w.heap.size, 7, none⟩ (.slice A1 n1 k1)) := (((((Turned.refl (fun k => k = w.heap.size) _).set rfl 4 _).set rfl 5 _).set rfl 6 _).set rfl 7 _)
          have htw : Turned (fun k => k = w.heap.size) w2 (((((w2.alloc (.cells #[.pointer (some ⟨q1, 0, none⟩), .bool c1, .map b1, .slice A1 n1 k1] 79)).setCell ⟨w.heap.size, 4, none⟩ (.pointer (some ⟨q1, 0, none⟩))).setCell ⟨w.heap.size, 5, none⟩ (.bool c1)).setCell ⟨w.heap.size, 6, none⟩ (.map b1)).setCell ⟨w.heap.size, 7, none⟩ (.slice A1 n1 k1)) := (Turned.of_below (S := fun k => k = w.heap.size) HR3.out.1).trans hts fun _ _ h => h
          have hwb : w.heap.size < wr.heap.size := lt_of_cells hbw.out.2
          have h2s := H2.out.2.size
          refine ⟨(hbw.out.1.trans (H2.out.2.mono hbw.out.1.size)).trans ((htw.mono (T := (w.heap.size ≤ ·)) fun k _ h => by have h' : k = w.heap.size := h; omega).below (by omega)), Nat.le_refl _, .inr (.inr ⟨rfl, HDN.out, x0, y0, q0, c0, b0, A0, n0, k0, wr.heap.size, w2.heap.size, q1, c1, b1, A1, n1, k1, (set_of_cells (set_of_cells (set_of_cells (set_of_cells hrow3 4 (.pointer (some ⟨q1, 0, none⟩))) 5 (.bool c1)) 6 (.map b1)) 7 (.slice A1 n1 k1)), HH.out.1, HH.out.2.1, ?_, (HH.out.2.2.below H2.out.2).turned htw fun k _ h1 _ h2 => by have h2' : k = w.heap.size := h2; have := HH.out.1; omega, H2.out.1.turned htw fun k _ h1 _ h2 => by have h2' : k = w.heap.size := h2; omega⟩)⟩
          simp
        case measure => simp only [intOf]; omega
      · rw [hdn] at hfd
        simp only [if_true] at hfd
        have HDN := Lib.hid hdn
        clear hdn
        go_wp2_with (go_at_call 28; refine hfd.mono ?_; clear hfd; rintro _ w2 ⟨hf, hb2⟩; rw [if_neg (by decide)] at hf; subst hf; have H2 := Lib.hid hb2; clear hb2)
        go_ret2
        have hr : openC d = (⟨[], 0, lm0, 0, 0⟩, 30) := by unfold openC; rw [if_neg (by have := HD.out.2.1; omega), if_pos HDN.out]
        rw [hr]
        refine ⟨?_, (hbw.out.1.trans (H2.out.mono hbw.out.1.size)).alloc (by have h1 := hbw.out.1.size; have h2 := H2.out.size; omega) _⟩
        rw [if_neg (by decide)]
        rfl
    · skip
      obtain ⟨a0, bb0, hf0⟩ := hh1.hf
      obtain ⟨a1, bb1, hf1⟩ := hh2.hf
      have hct := counting_any hf0.log hf1.log c0 c1 b0 b1 A0 A1 n0 n1 k0 k1
      unfold h2V at hct
      have hcc := cntM_cases c0 c1 (halfM d 0).first (halfM d 1).first
      obtain ⟨AT, hAT⟩ : ∃ AT, AT = cntM c0 c1 (halfM d 0).first (halfM d 1).first := ⟨_, rfl⟩
      rw [← hAT] at hct hcc
      have HA := Lib.hid hAT
      have HF := Lib.hid (And.intro hf0 hf1)
      have HO : Hid (openC d = openUp d AT) := Lib.hid (by rw [openC_up HD.out.2.1 hdn2, ← hf0.cnt_, ← hf1.cnt_, ← hAT])
      have HB := Lib.hid (And.intro hb (And.intro hrow (And.intro hx1 (And.intro hx2 hy2))))
      have HDN := Lib.hid hdn2
      clear hb hrow hx1 hx2 hy2 hh1 hh2 hf0 hf1 hAT hdn2
      go_upto_region 13 with (first
        | (refine wpList_load_row (by rfl) 80 (.tmp 4) (by rfl) w.heap.size (by rfl) 80 #[.pointer (some ⟨q0, 0, none⟩), .bool c0, .map b0, .slice A0 n0 k0, .pointer (some ⟨q1, 0, none⟩), .bool c1, .map b1, .slice A1 n1 k1] (0, 0) _ HB.out.2.1 Tryz.underlying80 (by rfl) half2_info ?_)
        | (go_at_call 29; refine hct.mono ?_; clear hct; rintro _ w5 ⟨rfl, hb5⟩; have H5 := Lib.hid hb5; clear hb5))
      rcases hcc with ⟨rfl, hc0, hc1⟩ | ⟨rfl, hc0⟩ | ⟨rfl, hc1⟩
      · have HW5 := Lib.hid (HB.out.1.trans (H5.out.mono HB.out.1.size))
        have hrow5 := (H5.out.block _ (lt_of_cells HB.out.2.1)).trans HB.out.2.1
        have hc4 : w5.cell? ⟨w.heap.size, 4, none⟩ = some (.pointer (some ⟨q1, 0, none⟩)) := cell_of_cells hrow5 4
        have hnx := wnext_any (HF.out.2.log.below H5.out)
        have hok1 : (halfM d 1).Ok := by
          have h2 : hn d = d.l.length / 2 := rfl
          have h3 := HD.out
          unfold halfM
          rw [Nat.one_mul]
          exact openM_ok (d := d) (by omega) h3.2.1 (by omega) (by omega)
        have hok0 : (halfM d 0).Ok := by
          have h2 : hn d = d.l.length / 2 := rfl
          have h3 := HD.out
          unfold halfM
          rw [Nat.zero_mul]
          exact openM_ok (d := d) (by omega) h3.2.1 (by omega) (by omega)
        have hbg := hbegin_any (HD.out.1.below HW5.out) 0 (by omega) (halfM d 1).next hok1.next
        have herr := hn_err HD.out.2.1 0 (by omega)
        rw [HDN.out] at herr
        have hbg' : Calls Tryz.prog 30 #[.pointer (some ⟨g, 0, none⟩), .int .i64 0, .int .u64 ((halfM d 1).next : Int)] w5 fun e w' => MadeL w5 g (beginM (halfM d 0) ((0 * hn d : Nat) : Int) ((hn d : Nat) : Int) (halfM d 1).next) 0 e w' := by
          have h := hbg
          unfold hn at herr
          rw [HDN.out, herr] at h
          exact h
        have HLM : Hid ((beginM (halfM d 0) ((0 * hn d : Nat) : Int) ((hn d : Nat) : Int) (halfM d 1).next).l = []) := Lib.hid rfl
        obtain ⟨M, hM⟩ : ∃ M, M = beginM (halfM d 0) ((0 * hn d : Nat) : Int) ((hn d : Nat) : Int) (halfM d 1).next := ⟨_, rfl⟩
        rw [← hM] at hbg'
        have HOO : Hid (openC d = ((⟨[], 0, M, 0, 0⟩ : SM), (0 : Int))) := Lib.hid (by rw [HO.out, openUp, if_pos rfl, ← hM])
        have hmm := @run_makeMap Tryz.prog
        clear hbg herr hok1 hok0 hrow5 hM hzh
        go_upto_region 15 with (first
          | (go_at_call 31; refine hnx.mono ?_; clear hnx; rintro _ _ ⟨rfl, rfl⟩)
          | (go_at_call 30; refine hbg'.mono ?_; clear hbg'; rintro _ w6 h6; have H6 := Lib.hid h6; obtain ⟨po, rfl, _, _⟩ := h6.cases; clear h6))
        have h6 := H6.out.1
        rw [if_pos rfl] at h6
        obtain ⟨p, hp, hlg⟩ := h6
        obtain rfl : po = some p := by
          cases po with
          | none => simp [lgV] at hp
          | some q' => simp [lgV] at hp; rw [hp]
        have hlgV : lgV (some p) = .pointer (some ⟨p, 0, none⟩) := rfl
        have HL6 := Lib.hid (And.intro (hlg.mono (T := fun k => w5.heap.size ≤ k ∧ k < w6.heap.size) fun k hk h => ⟨h, hk⟩) H6.out.2)
        clear hp hlg hc4
        go_wp2_with fail
        go_ret2
        rw [HOO.out]
        have hb1 : Below w6.heap.size w6 (w6.alloc (.map #[] 0)) := (Below.refl _ _).alloc (Nat.le_refl _) _
        have hb2 : Below (w6.alloc (.map #[] 0)).heap.size (w6.alloc (.map #[] 0)) ((w6.alloc (.map #[] 0)).alloc (.cells #[.pointer (some ⟨g, 0, none⟩), .int .i64 0, .pointer (some ⟨p, 0, none⟩), .map (some w6.heap.size), .int .i64 0, .int .i64 0] 88)) := (Below.refl _ _).alloc (Nat.le_refl _) _
        have h5s := HW5.out.size
        have h6s := HL6.out.2.size
        refine ⟨?_, ((HW5.out.trans (HL6.out.2.mono h5s)).trans (hb1.mono (by omega))).trans (hb2.mono (by simp; omega))⟩
        rw [if_pos rfl]
        refine ⟨(w6.alloc (.map #[] 0)).heap.size, by simp, p, w6.heap.size, fun k => w5.heap.size ≤ k ∧ k < w6.heap.size, fun k => k = w6.heap.size, by simp; omega, heap_alloc_new (w6.alloc (.map #[] 0)) _, (HL6.out.1.below hb1).below hb2, (made_map w6).below hb2, fun k _ h => ⟨by show w.heap.size ≤ k; omega, by simp; omega, fun e => by omega⟩, fun k _ h => ⟨by show w.heap.size ≤ k; omega, by simp; omega⟩⟩
      · have HW5 := Lib.hid (HB.out.1.trans (H5.out.mono HB.out.1.size))
        have hrow5 := (H5.out.block _ (lt_of_cells HB.out.2.1)).trans HB.out.2.1
        have hld : ∀ (j : Nat) (v : Value), (#[.pointer (some ⟨q0, 0, none⟩), .bool c0, .map b0, .slice A0 n0 k0] : Array Value)[j]? = some v → w5.cell? ((⟨w.heap.size, 0, none⟩ : Addr).add j) = some v := fun j v hv => by
          rw [add_plain, cell_of_cells hrow5]
          have hj := (Array.getElem?_eq_some_iff.1 hv).1
          match j, hj, hv with
          | 0, _, hv => exact hv
          | 1, _, hv => exact hv
          | 2, _, hv => exact hv
          | 3, _, hv => exact hv
          | j + 4, hj, _ => exact absurd hj (by show ¬ j + 4 < 4; omega)
        have HLD := Lib.hid hld
        have hf := HF.out.1
        obtain ⟨t0, ht0⟩ : ∃ t0, allM (halfM d 0) = some t0 := by
          have h1 := hf.cnt_
          rw [hc0] at h1
          rcases hq : allM (halfM d 0) with _ | t0
          · rw [hq] at h1; cases h1
          · exact ⟨t0, rfl⟩
        obtain ⟨mb, hmb, hnm⟩ := hf.yes t0 ht0
        injection hmb with hmb
        subst hmb
        subst hc0
        have hle := hf.le
        have hbx : Below w5.heap.size w5 (w5.alloc (.cells #[.pointer (some ⟨q0, 0, none⟩), .bool true, .map (some mb), .slice A0 n0 k0] 79)) := (Below.refl _ _).alloc (Nat.le_refl _) _
        have hb5x := H5.out.trans (hbx.mono H5.out.size)
        have hok : (halfM d 0).Ok := by
          have h2 : hn d = d.l.length / 2 := rfl
          have h3 := HD.out
          unfold halfM
          rw [Nat.zero_mul]
          exact openM_ok (d := d) (by omega) h3.2.1 (by omega) (by omega)
        have hrl : ∀ x ∈ (halfM d 0).l, x.length ≤ 10000000 := by
          obtain ⟨_, _, _, _, _, h9⟩ := hf.log
          exact h9
        have htl : ∀ b ∈ (halfM d 0).l.tail, b.length ≤ 10000000 := fun b hb => hrl b (List.mem_of_mem_tail hb)
        have ht0l : t0.length ≤ 10000000 := by
          unfold allM at ht0
          rcases hq : (halfM d 0).l with _ | ⟨r, rest⟩
          · rw [hq] at ht0; cases ht0
          · rw [hq] at ht0
            have h1 := (raM_may ht0).1
            have h2 := hrl r (by rw [hq]; simp)
            omega
        have hmlt := hnm.lt
        have hcu := catchup_any (heap_alloc_new w5 _) (hnm.below hb5x) (hf.rows.below hb5x) (show w5.heap.size ≠ mb by have := H5.out.size; omega) (fun k _ h e => by have := hnm.1; omega) ⟨by have h1 := hok.few; have h2 := hok.have_; have h3 := hok.n; rw [List.length_tail]; omega, ht0l⟩ htl
        obtain ⟨r, hr⟩ : ∃ r, r = upM t0 (halfM d 0).l.tail := ⟨_, rfl⟩
        rw [← hr] at hcu
        have HOO : Hid (openC d = upEnd 0 (halfM d 0) r) := Lib.hid (by
          rw [HO.out, openUp, if_neg (by decide)]
          simp only [show ((0:Int) = 1) = False from by simp, if_false]
          rw [ht0, hr]
          rfl)
        have HX := Lib.hid (And.intro (hf.log.below hb5x) (And.intro hle (And.intro hb5x hmlt)))
        have HNM1 := Lib.hid hnm.1
        have HLE2 := Lib.hid (And.intro HF.out.1.le HF.out.2.le)
        clear hrow5 hld hf ht0 hnm hle hbx hb5x hok hrl htl ht0l hmlt hr hzh
        go_upto_region 19 with (refine wpList_load_at (by rfl) 79 (.tmp 54) (by rfl) ⟨w.heap.size, 0, none⟩ (by rfl) #[.pointer (some ⟨q0, 0, none⟩), .bool true, .map (some mb), .slice A0 n0 k0] _ HLD.out Tryz.underlying79 (by rfl) half_info ?_)
        rcases r with _ | t1
        · go_wp2_with (go_at_call 32; refine hcu.mono ?_; clear hcu; rintro _ w7 ⟨rfl, ht7⟩; have H7 := Lib.hid ht7; clear ht7)
          go_ret2
          rw [HOO.out, upEnd]
          have hsz5 := HB.out.1.size
          have hle2 := HLE2.out
          have h5w := H5.out.size
          have hbs0 := HB.out.2.2
          have hle0 := HX.out.2.1
          have hnl0 := HNM1.out
          have hsx0 : (w5.alloc (.cells #[.pointer (some ⟨q0, 0, none⟩), .bool true, .map (some mb), .slice A0 n0 k0] 79)).heap.size = w5.heap.size + 1 := by simp
          have hx5 := HX.out.2.2.1.size
          refine ⟨?_, (HB.out.1.trans (HX.out.2.2.1.mono hsz5)).trans ((H7.out.mono (T := (w.heap.size ≤ ·)) fun k _ e => by rw [show k = mb from e]; have := HX.out.2.1; have := HB.out.2.2; have := HNM1.out; omega).below (by omega))⟩
          rw [if_neg (by decide)]
          rfl
        · go_upto_region 20 with (go_at_call 32; refine hcu.mono ?_; clear hcu; rintro _ w7 ⟨⟨rfl, hn7⟩, ht7⟩; have H7 := Lib.hid (And.intro hn7 ht7); clear hn7 ht7)
          have hrow7 := (H7.out.2.block _ (by simp : w5.heap.size < _) (by have := HX.out.2.2.2; have := H5.out.size; omega)).trans (heap_alloc_new w5 (.cells #[.pointer (some ⟨q0, 0, none⟩), .bool true, .map (some mb), .slice A0 n0 k0] 79))
          have hc70 : w7.cell? ⟨w5.heap.size, 0, none⟩ = some (.pointer (some ⟨q0, 0, none⟩)) := cell_of_cells hrow7 0
          have hc72 : w7.cell? ⟨w5.heap.size, 2, none⟩ = some (.map (some mb)) := cell_of_cells hrow7 2
          have HR7 := Lib.hid hrow7
          clear hrow7
          go_wp2_with fail
          go_ret2
          rw [HOO.out, upEnd]
          have hsz5 := HB.out.1.size
          have hle2 := HLE2.out
          have h5w := H5.out.size
          have hbs0 := HB.out.2.2
          have hle0 := HX.out.2.1
          have hnl0 := HNM1.out
          have hsx0 : (w5.alloc (.cells #[.pointer (some ⟨q0, 0, none⟩), .bool true, .map (some mb), .slice A0 n0 k0] 79)).heap.size = w5.heap.size + 1 := by simp
          have hx5 := HX.out.2.2.1.size
          have h7s := H7.out.2.size
          have hbs := HB.out.2.2
          have hle := HX.out.2.1
          have hnl := HNM1.out
          have hsx : (w5.alloc (.cells #[.pointer (some ⟨q0, 0, none⟩), .bool true, .map (some mb), .slice A0 n0 k0] 79)).heap.size = w5.heap.size + 1 := by simp
          have hb8 : Below w7.heap.size w7 (w7.alloc (.cells #[.pointer (some ⟨g, 0, none⟩), .int .i64 0, .pointer (some ⟨q0, 0, none⟩), .map (some mb), .int .i64 0, .int .i64 0] 88)) := (Below.refl _ _).alloc (Nat.le_refl _) _
          have hlow := HB.out.1.size
          refine ⟨?_, ((HB.out.1.trans (HX.out.2.2.1.mono hsz5)).trans ((H7.out.2.mono (T := (w.heap.size ≤ ·)) fun k _ e => by rw [show k = mb from e]; show w.heap.size ≤ mb; omega).below (by omega))).trans (hb8.mono (by omega))⟩
          rw [if_pos rfl]
          refine ⟨w7.heap.size, rfl, q0, mb, fun k => x0 ≤ k ∧ k < a0, fun k => (bb0 ≤ k ∧ k < y0) ∨ (w5.heap.size < k ∧ k < w7.heap.size), by show w.heap.size ≤ w7.heap.size; omega, heap_alloc_new w7 _, (HX.out.1.turned H7.out.2 fun k _ h1 e => by have e' : k = mb := e; omega).below hb8, (H7.out.1.mono (T := fun k => (bb0 ≤ k ∧ k < y0) ∨ (w5.heap.size < k ∧ k < w7.heap.size)) fun k _ h => ?_).below hb8, fun k _ h => ⟨by show w.heap.size ≤ k; omega, by show k ≠ w7.heap.size; have := H5.out.size; omega, fun h2 => by have := H5.out.size; omega⟩, fun k _ h => ⟨by show w.heap.size ≤ k; have := H5.out.size; omega, by show k ≠ w7.heap.size; have := H5.out.size; omega⟩⟩
          rcases h with h | h
          · exact .inl h
          · exact .inr ⟨by omega, h.2⟩
      · have HW5 := Lib.hid (HB.out.1.trans (H5.out.mono HB.out.1.size))
        have hrow5 := (H5.out.block _ (lt_of_cells HB.out.2.1)).trans HB.out.2.1
        have hld : ∀ (j : Nat) (v : Value), (#[.pointer (some ⟨q1, 0, none⟩), .bool c1, .map b1, .slice A1 n1 k1] : Array Value)[j]? = some v → w5.cell? ((⟨w.heap.size, 4, none⟩ : Addr).add j) = some v := fun j v hv => by
          rw [add_plain, cell_of_cells hrow5]
          have hj := (Array.getElem?_eq_some_iff.1 hv).1
          match j, hj, hv with
          | 0, _, hv => exact hv
          | 1, _, hv => exact hv
          | 2, _, hv => exact hv
          | 3, _, hv => exact hv
          | j + 4, hj, _ => exact absurd hj (by show ¬ j + 4 < 4; omega)
        have HLD := Lib.hid hld
        have hf := HF.out.2
        obtain ⟨t0, ht0⟩ : ∃ t0, allM (halfM d 1) = some t0 := by
          have h1 := hf.cnt_
          rw [hc1] at h1
          rcases hq : allM (halfM d 1) with _ | t0
          · rw [hq] at h1; cases h1
          · exact ⟨t0, rfl⟩
        obtain ⟨mb, hmb, hnm⟩ := hf.yes t0 ht0
        injection hmb with hmb
        subst hmb
        subst hc1
        have hle := hf.le
        have hbx : Below w5.heap.size w5 (w5.alloc (.cells #[.pointer (some ⟨q1, 0, none⟩), .bool true, .map (some mb), .slice A1 n1 k1] 79)) := (Below.refl _ _).alloc (Nat.le_refl _) _
        have hb5x := H5.out.trans (hbx.mono H5.out.size)
        have hok : (halfM d 1).Ok := by
          have h2 : hn d = d.l.length / 2 := rfl
          have h3 := HD.out
          unfold halfM
          rw [Nat.one_mul]
          exact openM_ok (d := d) (by omega) h3.2.1 (by omega) (by omega)
        have hrl : ∀ x ∈ (halfM d 1).l, x.length ≤ 10000000 := by
          obtain ⟨_, _, _, _, _, h9⟩ := hf.log
          exact h9
        have htl : ∀ b ∈ (halfM d 1).l.tail, b.length ≤ 10000000 := fun b hb => hrl b (List.mem_of_mem_tail hb)
        have ht0l : t0.length ≤ 10000000 := by
          unfold allM at ht0
          rcases hq : (halfM d 1).l with _ | ⟨r, rest⟩
          · rw [hq] at ht0; cases ht0
          · rw [hq] at ht0
            have h1 := (raM_may ht0).1
            have h2 := hrl r (by rw [hq]; simp)
            omega
        have hmlt := hnm.lt
        have hcu := catchup_any (heap_alloc_new w5 _) (hnm.below hb5x) (hf.rows.below hb5x) (show w5.heap.size ≠ mb by have := H5.out.size; omega) (fun k _ h e => by have := hnm.1; omega) ⟨by have h1 := hok.few; have h2 := hok.have_; have h3 := hok.n; rw [List.length_tail]; omega, ht0l⟩ htl
        obtain ⟨r, hr⟩ : ∃ r, r = upM t0 (halfM d 1).l.tail := ⟨_, rfl⟩
        rw [← hr] at hcu
        have HOO : Hid (openC d = upEnd 1 (halfM d 1) r) := Lib.hid (by
          rw [HO.out, openUp, if_neg (by decide)]
          simp only [if_true]
          rw [ht0, hr]
          rfl)
        have HX := Lib.hid (And.intro (hf.log.below hb5x) (And.intro hle (And.intro hb5x hmlt)))
        have HNM1 := Lib.hid hnm.1
        have HLE2 := Lib.hid (And.intro HF.out.1.le HF.out.2.le)
        clear hrow5 hld hf ht0 hnm hle hbx hb5x hok hrl htl ht0l hmlt hr hzh
        go_upto_region 19 with (refine wpList_load_at (by rfl) 79 (.tmp 54) (by rfl) ⟨w.heap.size, 4, none⟩ (by rfl) #[.pointer (some ⟨q1, 0, none⟩), .bool true, .map (some mb), .slice A1 n1 k1] _ HLD.out Tryz.underlying79 (by rfl) half_info ?_)
        rcases r with _ | t1
        · go_wp2_with (go_at_call 32; refine hcu.mono ?_; clear hcu; rintro _ w7 ⟨rfl, ht7⟩; have H7 := Lib.hid ht7; clear ht7)
          go_ret2
          rw [HOO.out, upEnd]
          have hsz5 := HB.out.1.size
          have hle2 := HLE2.out
          have h5w := H5.out.size
          have hbs0 := HB.out.2.2
          have hle0 := HX.out.2.1
          have hnl0 := HNM1.out
          have hsx0 : (w5.alloc (.cells #[.pointer (some ⟨q1, 0, none⟩), .bool true, .map (some mb), .slice A1 n1 k1] 79)).heap.size = w5.heap.size + 1 := by simp
          have hx5 := HX.out.2.2.1.size
          refine ⟨?_, (HB.out.1.trans (HX.out.2.2.1.mono hsz5)).trans ((H7.out.mono (T := (w.heap.size ≤ ·)) fun k _ e => by rw [show k = mb from e]; have := HX.out.2.1; have := HB.out.2.2; have := HNM1.out; omega).below (by omega))⟩
          rw [if_neg (by decide)]
          rfl
        · go_upto_region 20 with (go_at_call 32; refine hcu.mono ?_; clear hcu; rintro _ w7 ⟨⟨rfl, hn7⟩, ht7⟩; have H7 := Lib.hid (And.intro hn7 ht7); clear hn7 ht7)
          have hrow7 := (H7.out.2.block _ (by simp : w5.heap.size < _) (by have := HX.out.2.2.2; have := H5.out.size; omega)).trans (heap_alloc_new w5 (.cells #[.pointer (some ⟨q1, 0, none⟩), .bool true, .map (some mb), .slice A1 n1 k1] 79))
          have hc70 : w7.cell? ⟨w5.heap.size, 0, none⟩ = some (.pointer (some ⟨q1, 0, none⟩)) := cell_of_cells hrow7 0
          have hc72 : w7.cell? ⟨w5.heap.size, 2, none⟩ = some (.map (some mb)) := cell_of_cells hrow7 2
          have HR7 := Lib.hid hrow7
          clear hrow7
          go_wp2_with fail
          go_ret2
          rw [HOO.out, upEnd]
          have hsz5 := HB.out.1.size
          have hle2 := HLE2.out
          have h5w := H5.out.size
          have hbs0 := HB.out.2.2
          have hle0 := HX.out.2.1
          have hnl0 := HNM1.out
          have hsx0 : (w5.alloc (.cells #[.pointer (some ⟨q1, 0, none⟩), .bool true, .map (some mb), .slice A1 n1 k1] 79)).heap.size = w5.heap.size + 1 := by simp
          have hx5 := HX.out.2.2.1.size
          have h7s := H7.out.2.size
          have hbs := HB.out.2.2
          have hle := HX.out.2.1
          have hnl := HNM1.out
          have hsx : (w5.alloc (.cells #[.pointer (some ⟨q1, 0, none⟩), .bool true, .map (some mb), .slice A1 n1 k1] 79)).heap.size = w5.heap.size + 1 := by simp
          have hb8 : Below w7.heap.size w7 (w7.alloc (.cells #[.pointer (some ⟨g, 0, none⟩), .int .i64 1, .pointer (some ⟨q1, 0, none⟩), .map (some mb), .int .i64 0, .int .i64 0] 88)) := (Below.refl _ _).alloc (Nat.le_refl _) _
          have hlow := HB.out.1.size
          refine ⟨?_, ((HB.out.1.trans (HX.out.2.2.1.mono hsz5)).trans ((H7.out.2.mono (T := (w.heap.size ≤ ·)) fun k _ e => by rw [show k = mb from e]; show w.heap.size ≤ mb; omega).below (by omega))).trans (hb8.mono (by omega))⟩
          rw [if_pos rfl]
          refine ⟨w7.heap.size, rfl, q1, mb, fun k => x1 ≤ k ∧ k < a1, fun k => (bb1 ≤ k ∧ k < y1) ∨ (w5.heap.size < k ∧ k < w7.heap.size), by show w.heap.size ≤ w7.heap.size; omega, heap_alloc_new w7 _, (HX.out.1.turned H7.out.2 fun k _ h1 e => by have e' : k = mb := e; omega).below hb8, (H7.out.1.mono (T := fun k => (bb1 ≤ k ∧ k < y1) ∨ (w5.heap.size < k ∧ k < w7.heap.size)) fun k _ h => ?_).below hb8, fun k _ h => ⟨by show w.heap.size ≤ k; omega, by show k ≠ w7.heap.size; have := H5.out.size; omega, fun h2 => by have := H5.out.size; omega⟩, fun k _ h => ⟨by show w.heap.size ≤ k; have := H5.out.size; omega, by show k ≠ w7.heap.size; have := H5.out.size; omega⟩⟩
          rcases h with h | h
          · exact .inl h
          · exact .inr ⟨by omega, h.2⟩
theorem copen_any {w : World} {S : Nat → Prop} {g : Nat} {d : DM} (hd : Dk w S g d) :
    Calls Tryz.prog 8 #[.pointer (some ⟨g, 0, none⟩)] w fun e w' => MadeC w g (openC d) e w' := by
  by_cases h : hn d < 1
  · exact copen_small hd h
  · exact copen_run hd (by omega)
end Go.Proofs.YtcgnaomffioldaaGreat

/-! Cells: the record of all, written; a map's copy. -/
namespace Go.Proofs.YtcgnaomffioldaaGreat
open Go.RowKit Codec

theorem cell_turned' {T : Nat → Prop} {w w' : World} (ht : Turned T w w') {k : Nat} (hk : k < w.heap.size) (hT : ¬ T k) (o : Nat) : w'.cell? ⟨k, o, none⟩ = w.cell? ⟨k, o, none⟩ :=
  World.cell?_of_block (w := w) (a := ⟨k, o, none⟩) (ht.block k hk hT)
theorem mclone_any {w : World} {S : Nat → Prop} {b : Nat} {t : Tb} (h : Nms w S b t) :
    Calls Tryz.prog 96 #[.map (some b)] w fun e w' => e = .returned (.map (some w.heap.size)) ∧ Nms w' (fun k => (S k ∧ k ≠ b) ∨ k = w.heap.size) w.heap.size t ∧ Below w.heap.size w w' := by
  obtain ⟨hS, D, hown, ha⟩ := h
  have hc : Calls Tryz.prog 96 #[.map (some b)] w _ := AnyW.maps_Clone_owns Tryz.cloneL 9 rv b t.length D w hown
  refine hc.mono ?_
  rintro e w' ⟨rfl, h1, h2, hb⟩
  refine ⟨rfl, ⟨.inr rfl, D, h1, ((ha.mono (T := fun k => ((S k ∧ k ≠ b) ∨ k = w.heap.size) ∧ k ≠ w.heap.size) fun k hk hs => ⟨.inl hs, by omega⟩).turned (T := fun _ => False) (Turned.of_below hb) fun _ _ _ h => h)⟩, hb⟩
/-- The writer's blocks: new ones, but for those of the names. -/
def arF (B lo hi k : Nat) : Prop := B ≤ k ∧ ¬ (lo ≤ k ∧ k < hi)
/-- While it is written. -/
def ArR (w w4 : World) (lo p : Nat) (pre : List UInt8) (t : Tb) (i : Value) (wr : World) : Prop :=
  ∃ j : Nat, j ≤ t.length ∧ i = .int .i64 (j : Int) ∧ Wr wr (arF w.heap.size lo w4.heap.size) p (pre ++ ofT (t.take j)) ∧ Turned (arF w.heap.size lo w4.heap.size) w4 wr
theorem wtT_take (t : Tb) (j : Nat) : wtT (t.take j) ≤ wtT t := by
  have h := wtT_app (t.take j) (t.drop j)
  rw [List.take_append_drop] at h
  omega
theorem wtT_mem {t : Tb} {x : List UInt8 × List UInt8} (h : x ∈ t) : x.1.length + x.2.length + 20 ≤ wtT t := by
  obtain ⟨a, b, rfl⟩ := List.append_of_mem h
  rw [wtT_app]
  simp only [wtT]
  omega
set_option maxHeartbeats 4000000 in
set_option maxRecDepth 100000 in
theorem allrec_any {w : World} {S : Nat → Prop} {b : Nat} {t : Tb} (hm : Nms w S b t) (hb : wtT t ≤ 900000) :
    Calls Tryz.prog 97 #[.map (some b)] w fun e w' => ∃ A' m c', e = .returned (.slice A' m c') ∧ Byt w' (w.heap.size ≤ ·) A' m c' (allB t) ∧ Below w.heap.size w w' := by
  have hnw := newWriter w
  have hwl := wtT_len t
  obtain ⟨n, hn⟩ : ∃ n, n = t.length := ⟨_, rfl⟩
  have hcv := IntWalk.u64_in (n : Int) (by omega)
  have hbig : n ≤ 100000 := by omega
  have HL := Lib.hid (And.intro (hm.mono (T := fun k => k < w.heap.size) fun k hk _ => hk) (And.intro hb hm.srt))
  have HN := Lib.hid hn
  have HW := Lib.hid hwl
  clear hm hb hn hwl
  go_enter Tryz.func97, Tryz.ntmps97
  go_upto_region 2 with (go_at_call 86; refine hnw.mono ?_; clear hnw; rintro _ w1 ⟨p, rfl, hw1, hb1⟩)
  have h2 := wuint hw1 (x := 1) (by omega) (by simp)
  have HB1 := Lib.hid hb1
  clear hw1 hb1
  go_upto_region 3 with (go_at_call 87; refine h2.mono ?_; clear h2; rintro _ w2 hp2; obtain ⟨rfl, hw2, ht2⟩ := hp2)
  have hp2 := Put.from (e := .returned (.tuple #[])) (show Put w1 (w.heap.size ≤ ·) p ([] ++ put 1) _ w2 from ⟨rfl, hw2, ht2⟩) HB1.out.size
  have HB2 := Lib.hid (HB1.out.trans hp2.2)
  have h3 := wuint hp2.1 (x := n) (by omega) (by have := put_length_64 (x := 1) (by omega); simp; omega)
  have hlen := (HL.out.1.below HB2.out).len 3
  rw [← HN.out] at hlen
  clear hw2 ht2 hp2 HB1
  go_upto_region 4 with (go_at_call 87; refine h3.mono ?_; clear h3; rintro _ w3 hp3; obtain ⟨rfl, hw3, ht3⟩ := hp3)
  clear hlen
  have hp3 := Put.from (e := .returned (.tuple #[])) (show Put w2 (w.heap.size ≤ ·) p ([] ++ put 1 ++ put n) _ w3 from ⟨rfl, hw3, ht3⟩) HB2.out.size
  obtain ⟨pre, hpre⟩ : ∃ pre, pre = put 1 ++ put n := ⟨_, rfl⟩
  have H3 := Lib.hid (And.intro (show Wr w3 (w.heap.size ≤ ·) p pre by rw [hpre]; simpa using hp3.1) (HB2.out.trans hp3.2))
  have HPRE : Hid (pre = put 1 ++ put n ∧ pre.length ≤ 20) := Lib.hid ⟨hpre, by rw [hpre, List.length_append]; have h1 := put_length_64 (x := 1) (by omega); have h2 := put_length_64 (x := n) (by omega); omega⟩
  have hks := keys_func (some b) w3
  have hss := keys_sorted (HL.out.1.below H3.out.2) (by have := HN.out; omega)
  clear hw3 ht3 hp3 HB2 hpre
  go_wp2_with (first
    | (go_at_call 51; refine hks.mono ?_; clear hks; rintro _ _ ⟨rfl, rfl⟩)
    | (go_at_call 50; refine hss.mono ?_; clear hss; rintro _ w4 ⟨A4, n4, c4, rfl, hs4, hb4⟩; obtain rfl : n4 = n := by { have h1 := hs4.len; have h2 := HN.out; rw [List.length_map] at h1; omega }; have H4 := Lib.hid (And.intro hs4 hb4); clear hs4 hb4))
  have HST := Lib.hid (H4.out.1.mono (T := fun k => w3.heap.size ≤ k ∧ k < w4.heap.size) fun k hk h => ⟨h, hk⟩)
  have H0 : Hid (ArR w w4 w3.heap.size p pre t (.int .i64 0) w4) := Lib.hid ⟨0, Nat.zero_le _, rfl, by
    have h1 := (H3.out.1.mono (T := arF w.heap.size w3.heap.size w4.heap.size) fun k hk h => ⟨h, by omega⟩).turned (T := fun _ => False) (Turned.of_below H4.out.2) fun _ _ _ h => h
    simpa [ofT] using h1, Turned.refl _ _⟩
  have HB := Lib.hid (And.intro H3.out.2 (And.intro H4.out.2 (show w.heap.size ≤ w3.heap.size from H3.out.2.size)))
  have HNM := Lib.hid (HL.out.1.below (H3.out.2.trans (H4.out.2.mono H3.out.2.size)))
  clear H3 H4
  go_loopw [18] (fun i wr => ArR w w4 w3.heap.size p pre t i wr) (fun i _ => n4 - (intOf i).toNat)
  case atStart => exact H0.out
  case round =>
    obtain ⟨j, hj, rfl, hwr, htn⟩ := hrel
    clear H0
    have HK := Lib.hid (And.intro hwr htn)
    clear hwr htn
    by_cases hlt : j < n4
    · have hlt' : (j : Int) < (n4 : Int) := by omega
      obtain ⟨q, off, rfl, hq, hqlt, hcs⟩ := HST.out.row (by omega)
      have hjt : j < t.length := by have := HN.out; omega
      obtain ⟨x, hx⟩ : ∃ x, t[j]? = some x := ⟨_, List.getElem?_eq_getElem hjt⟩
      have hxm := List.mem_of_getElem? hx
      have hxw := wtT_mem hxm
      have hgx := getT_mem HL.out.2.2 hxm
      have hc := hcs j hlt
      have hkx : ((t.map (·.1))[j]?.getD []) = x.1 := by rw [List.getElem?_map, hx]; rfl
      rw [hkx] at hc
      have hcw : wr.cell? ⟨q, off + j, none⟩ = some (.string (st x.1)) := (cell_turned' HK.out.2 hqlt (fun h => h.2 hq) _).trans hc
      have hadd := IntWalk.i64_in ((j : Int) + 1) (by omega)
      have HX := Lib.hid (And.intro hx (And.intro hxw hgx))
      have HNW := Lib.hid (HNM.out.turned HK.out.2 fun k _ h1 h2 => by have := h2.1; omega)
      have hxb : x.1.length + x.2.length ≤ 900000 := by have := HL.out.2.1; omega
      obtain ⟨c6, w6, hcv6, hb6, hy6⟩ := conv_bytes x.1 (by omega) wr
      have hwt := wtT_take t j
      have hofl := ofT_len (t.take j) (by have := HL.out.2.1; omega)
      have hl5 : (pre ++ ofT (t.take j)).length ≤ 1000000 := by rw [List.length_append]; have := HPRE.out.2; have := HL.out.2.1; omega
      have h4r := HK.out.2.size
      have hwb := wbytes ((HK.out.1.mono (T := fun k => arF w.heap.size w3.heap.size w4.heap.size k ∧ k < wr.heap.size) fun k hk h => ⟨h, hk⟩).turned (T := fun _ => False) (Turned.of_below hb6) fun _ _ _ h => h) hy6 (fun k _ h1 h2 => by rw [h1] at h2; exact absurd h2.2 (Nat.lt_irrefl _)) (by omega)
      have HB6 := Lib.hid (And.intro hb6 (And.intro hl5 (And.intro hxb h4r)))
      clear hb6 hy6 hwt hofl hl5 hxb h4r hx hxm hxw hgx hcs hc hkx hjt hq hqlt
      go_upto_region 8 with (go_at_call 88; refine hwb.mono ?_; clear hwb; rintro _ w7 hp7; obtain ⟨rfl, hw7, ht7⟩ := hp7)
      have H7 := Lib.hid (And.intro (hw7.mono (T := arF w.heap.size w3.heap.size w4.heap.size) fun k hk h => by
          have h1 := HB6.out.1.size; have h2 := HB6.out.2.2.2; have h3 := HB.out.2.1.size; have h4 := HB.out.2.2
          rcases h with h | h
          · exact h.1
          · exact ⟨by omega, by omega⟩) ((Turned.of_below (S := arF w.heap.size w3.heap.size w4.heap.size) HB6.out.1).trans ht7 fun k _ h => h.1))
      clear hw7 ht7 hcv6 hcw
      obtain ⟨Av, nv, cv, _, hlk, hyv⟩ := (HNW.out.turned H7.out.2 fun k _ h1 h2 => by have := h2.1; omega).look (k := x.1) (by have := HB6.out.2.2.1; omega)
      rw [HX.out.2.2] at hyv
      have hwv := wbytes H7.out.1 hyv (fun k _ h1 h2 => by have := h2.1; omega) (by
        have h1 := put_length_64 (x := x.1.length) (by have := HB6.out.2.2.1; omega)
        have h2 := HB6.out.2.1
        have h3 := HB6.out.2.2.1
        have h4 : x.2.length = nv := hyv.len
        simp only [List.length_append] at h2 ⊢
        omega)
      clear hyv
      go_wp2_with (go_at_call 88; refine hwv.mono ?_; clear hwv; rintro _ w9 hp9; obtain ⟨rfl, hw9, ht9⟩ := hp9; have H9 := Lib.hid (And.intro hw9 ht9); clear hw9 ht9)
      go_roundw
      case rel =>
        unfold ArR
        have hjt : j < t.length := by have := HN.out; omega
        refine ⟨j + 1, by omega, by simp, ?_, (HK.out.2.trans H7.out.2 fun k _ h => h).trans H9.out.2 fun k _ h => h⟩
        have htk : t.take (j + 1) = t.take j ++ [x] := by
          obtain ⟨hjl, hxe⟩ := List.getElem?_eq_some_iff.1 HX.out.1
          rw [List.take_succ_eq_append_getElem hjl, hxe]
        rw [htk, ofT_snoc]
        have e : pre ++ (ofT (t.take j) ++ (rowB x.1 ++ rowB x.2)) = pre ++ ofT (t.take j) ++ (put x.1.length ++ x.1) ++ (put x.2.length ++ x.2) := by
          unfold rowB
          simp
        rw [e]
        refine H9.out.1.mono fun k hk h => ?_
        rcases h with h | h
        · exact h
        · have h1 := H7.out.2.size
          have h2 := HB6.out.2.2.2
          have h3 := HB.out.2.1.size
          have h4 := HB.out.2.2
          exact ⟨by omega, by omega⟩
      case measure => simp only [intOf]; omega
    · obtain rfl : j = n4 := by have := HN.out; omega
      have hnl : ¬ (j : Int) < (j : Int) := by omega
      have hfull : t.take j = t := List.take_of_length_le (by have := HN.out; omega)
      have h1 := HK.out.1
      rw [hfull, HPRE.out.1, HN.out, show put 1 ++ put t.length ++ ofT t = allB t from rfl] at h1
      have hcl := allB_len t (by have := HL.out.2.1; omega)
      have hout := wout h1 (by have := HL.out.2.1; omega)
      have HBW := Lib.hid ((HB.out.1.trans (HB.out.2.1.mono HB.out.2.2)).trans ((HK.out.2.mono (T := (w.heap.size ≤ ·)) fun k _ h => h.1).below (by have := HB.out.2.1.size; have := HB.out.2.2; omega)))
      clear hlt h1 hfull hcl
      obtain ⟨M, hM⟩ : ∃ M, M = (allB t).length := ⟨_, rfl⟩
      rw [← hM] at hout
      clear hM
      go_wp2_with (go_at_call 90; refine hout.mono ?_; clear hout; rintro _ w8 ⟨A8, c8, rfl, hy8, hb8, _⟩; have H8 := Lib.hid (And.intro (hy8.mono (T := (w.heap.size ≤ ·)) fun k _ hk => Nat.le_trans HBW.out.size hk) (HBW.out.trans (hb8.mono HBW.out.size))); clear hy8 hb8)
      go_ret
      exact ⟨A8, _, c8, rfl, H8.out.1, H8.out.2⟩
end Go.Proofs.YtcgnaomffioldaaGreat
