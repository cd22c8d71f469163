/-
  The statement BagPlays: its walk.
-/
import Derived.Test.YtogfblfekedefaaBagAwake
import Derived.Test.YtogfblfekedefaaBagRtick
import Derived.Test.YtogfblfekedefaaBagActsIn
import Derived.Test.YtogfblfekedefaaGrow
import Derived.Deep.CutBlock
namespace Go.Proofs.Ytogfblfekedefaa
open Go.RowKit

/-- New blocks are the reference's. -/
def moreB (W W' : World) (R : Nat → Prop) (k : Nat) : Prop := R k ∨ (W.heap.size ≤ k ∧ k < W'.heap.size)
/-- The code's bag and the reference's row, side by side; R: the reference's blocks, and the law's. -/
structure BP (w : World) (m p N : Nat) (A : Option Addr) (n c : Nat) (l : List Bm) (R : Nat → Prop) (J : Nat) (wr : World) : Prop where
  bg : Bgs wr (fun k => m ≤ k ∧ ¬ R k) p N l
  rs : Ros 4 bmV wr R A n c l
  rb : ∀ k, R k → m ≤ k ∧ k < wr.heap.size
  bel : Below w.heap.size w wr
  wm : w.heap.size ≤ m
  top : m ≤ wr.heap.size
  ag : ∀ x ∈ l, x.a ≤ J ∧ x.b.length ≤ 200
section
variable {w wr W' : World} {m p N n c J K : Nat} {A : Option Addr} {l l' : List Bm} {R : Nat → Prop}
theorem BP.below (h : BP w m p N A n c l R J wr) (hb : Below wr.heap.size wr W') : BP w m p N A n c l R J W' :=
  ⟨h.bg.below hb, h.rs.below hb, fun k hk => ⟨(h.rb k hk).1, Nat.lt_of_lt_of_le (h.rb k hk).2 hb.size⟩, h.bel.trans (hb.mono h.bel.size), h.wm, Nat.le_trans h.top hb.size, h.ag⟩
theorem BP.more (h : BP w m p N A n c l R J wr) (hb : Below wr.heap.size wr W') : BP w m p N A n c l (moreB wr W' R) J W' :=
  ⟨(h.bg.mono (T := fun k => m ≤ k ∧ ¬ moreB wr W' R k) fun k hk h1 => ⟨h1.1, fun h2 => by
    rcases h2 with h2 | h2
    · exact h1.2 h2
    · omega⟩).below hb, (h.rs.mono fun k _ hk => .inl hk).below hb, fun k hk => by
    have := h.top
    rcases hk with hk | hk
    · have := h.rb k hk; have := hb.size; omega
    · omega, h.bel.trans (hb.mono h.bel.size), h.wm, Nat.le_trans h.top hb.size, h.ag⟩
/-- The code has acted, and then the reference. -/
theorem BP.step (h : BP w m p N A n c l R J wr) {w1 w2 : World} (hg : Bgs w1 (fun k => (m ≤ k ∧ ¬ R k) ∨ wr.heap.size ≤ k) p N l') (ht : Turned (fun k => m ≤ k ∧ ¬ R k) wr w1) {S : Nat → Prop} {A' : Option Addr} {n' c' : Nat} (hr : Ros 4 bmV w2 S A' n' c' l') (hS : ∀ k, k < w2.heap.size → S k → R k ∨ w1.heap.size ≤ k) (hb : Below w1.heap.size w1 w2) (hag : ∀ x ∈ l', x.a ≤ K ∧ x.b.length ≤ 200) : BP w m p N A' n' c' l' (moreB w1 w2 R) K w2 :=
  ⟨(hg.mono (T := fun k => m ≤ k ∧ ¬ moreB w1 w2 R k) fun k hk h1 => by
    have ht1 := h.top
    rcases h1 with h1 | h1
    · exact ⟨h1.1, fun h2 => by rcases h2 with h2 | h2; exact h1.2 h2; omega⟩
    · exact ⟨by omega, fun h2 => by rcases h2 with h2 | h2; have := (h.rb k h2).2; omega; omega⟩).below hb, hr.mono fun k hk hs => by rcases hS k hk hs with h1 | h1; exact .inl h1; exact .inr ⟨h1, hk⟩, fun k hk => by
    have h1 := ht.size
    have h2 := hb.size
    have h3 := h.top
    rcases hk with hk | hk
    · have := h.rb k hk; omega
    · omega, h.bel.trans (((ht.mono (T := fun k => w.heap.size ≤ k) fun k _ hk => Nat.le_trans h.wm hk.1).below h.bel.size).trans (hb.mono (Nat.le_trans h.bel.size ht.size))), h.wm, Nat.le_trans h.top (Nat.le_trans ht.size hb.size), hag⟩
end
def bactZ : Array Value := #[.int .i64 0, .int .i64 0, .int .i64 0, .slice none 0 0, .int .i64 0]
theorem zero_bact : ∀ W, (zeroValue 33).run Try.prog W = .ok (.agg bactZ) W := fun W => by kernel_rfl
def RBp (w : World) (m p N ns : Nat) (lv i : Value) (wr : World) : Prop := ∃ (j : Nat) (l : List Bm) (A : Option Addr) (n c : Nat) (R : Nat → Prop), j ≤ 60 ∧ j ≤ ns ∧ i = .int .i64 (j : Int) ∧ lv = .slice A n c ∧ BP w m p N A n c l R j wr
def RB2 (w : World) (m p N pa : Nat) (AV : Array Value) (i : Nat) (lv f g : Value) (wx : World) : Prop := ∃ (l : List Bm) (A : Option Addr) (n c : Nat) (R : Nat → Prop) (E : Int), lv = .slice A n c ∧ f = .int .i64 E ∧ g = .int .i64 E ∧ BP w m p N A n c l R (i + 1) wx ∧ wx.heap[pa]? = some (.cells AV 33 (0, 0)) ∧ R pa
theorem putB_mem {N : Nat} {l : List Bm} {m x : Bm} (h : x ∈ (putB N l m).1) : x ∈ l ∨ x = { m with a := 0 } := by
  unfold putB at h
  split at h
  · exact .inl h
  · split at h
    · exact .inl h
    · split at h
      · exact .inl h
      · rcases List.mem_append.1 h with h | h
        · exact .inl h
        · exact .inr (List.mem_singleton.1 h)
theorem takeB_mem {i : Nat} {l : List Bm} {x : Bm} (h : x ∈ takeB l i) : x ∈ l := by
  unfold takeB at h
  rcases List.mem_append.1 h with h | h
  · exact List.mem_of_mem_take h
  · exact List.mem_of_mem_drop h
def RIb (wf : World) (l : List Bm) (t : Int) (kv jv : Value) (wx : World) : Prop := ∃ j : Nat, j ≤ l.length ∧ kv = .int .i64 (cntB l t j : Int) ∧ jv = .int .i64 (j : Int) ∧ Below wf.heap.size wf wx
theorem tickB_mem {k : Nat} {l : List Bm} {x : Bm} (h : x ∈ tickB k l) : ∃ y ∈ l, x = { y with a := y.a + 1 } := by
  unfold tickB at h
  obtain ⟨y, hy, rfl⟩ := List.mem_map.1 (List.mem_filter.1 h).1
  exact ⟨y, hy, rfl⟩
theorem bm_built3 (f t : Int) (s : ByteArray) : Try.prog.built 38 [(0, .int .i64 f), (1, .int .i64 t), (2, .string s)] = some #[.int .i64 f, .int .i64 t, .string s, .int .i64 0] := by kernel_rfl
set_option maxHeartbeats 8000000 in
set_option maxRecDepth 100000 in
theorem bplays_run {w : World} {A : Option Addr} {ns cs : Nat} {L : List BAct} (hacts : BActs w A ns cs L) (n : Int) :
    Calls Try.prog 3 #[.int .i64 n, .slice A ns cs] w fun e w' => e = .returned (.bool true) ∧ Below w.heap.size w w' := by
  have haw := bagawake_true w
  by_cases h1 : n < 1
  · clear hacts
    go_enter Try.func3, Try.ntmps3
    go_upto_region 4 with (go_at_call 7; refine haw.mono ?_; clear haw; rintro _ w1 ⟨rfl, hb1⟩)
    have hnw := bgnew_no w1 n (.inl h1)
    have HB1 := Lib.hid hb1
    clear hb1
    go_wp2_with (go_at_call 8; refine hnw.mono ?_; clear hnw; rintro _ w2 ⟨rfl, hb2⟩; have HB2 := Lib.hid (HB1.out.trans (hb2.mono HB1.out.size)); clear hb2)
    go_ret
    exact ⟨rfl, HB2.out⟩
  by_cases h2 : 64 < n
  · clear hacts
    go_enter Try.func3, Try.ntmps3
    go_upto_region 4 with (go_at_call 7; refine haw.mono ?_; clear haw; rintro _ w1 ⟨rfl, hb1⟩)
    have hnw := bgnew_no w1 n (.inr h2)
    have HB1 := Lib.hid hb1
    clear hb1
    go_wp2_with (go_at_call 8; refine hnw.mono ?_; clear hnw; rintro _ w2 ⟨rfl, hb2⟩; have HB2 := Lib.hid (HB1.out.trans (hb2.mono HB1.out.size)); clear hb2)
    go_ret
    exact ⟨rfl, HB2.out⟩
  obtain ⟨N, rfl⟩ := Int.eq_ofNat_of_zero_le (show 0 ≤ n by omega)
  have HN := Lib.hid (And.intro hacts (And.intro (show 1 ≤ N by omega) (show N ≤ 64 by omega)))
  clear hacts
  go_enter Try.func3, Try.ntmps3
  go_upto_region 4 with (go_at_call 7; refine haw.mono ?_; clear haw; rintro _ w1 ⟨rfl, hb1⟩)
  have hnw := bgnew_ok w1 N HN.out.2.1 HN.out.2.2
  have HB1 := Lib.hid hb1
  clear hb1
  go_upto_region 5 with (go_at_call 8; refine hnw.mono ?_; clear hnw; rintro _ w2 ⟨p, rfl, hg2, hb2⟩)
  obtain ⟨m, hm⟩ : ∃ m, m = w1.heap.size := ⟨_, rfl⟩
  have H2 : Hid (RBp w m p N ns (.slice none 0 0) (.int .i64 0) w2) := Lib.hid ⟨0, [], none, 0, 0, fun _ => False, by omega, Nat.zero_le _, rfl, rfl, hg2.mono fun k _ h => ⟨by omega, id⟩, Ros.nil _ _ _ _ (Nat.zero_le _), fun _ h => h.elim, HB1.out.trans (hb2.mono HB1.out.size), by rw [hm]; exact HB1.out.size, by rw [hm]; exact hb2.size, by simp⟩
  clear hg2 hb2 hm HB1
  go_wp2_with fail
  go_loopw [8, 9] (fun lv i wr => RBp w m p N ns lv i wr) (fun _ i _ => 60 - (intOf i).toNat)
  case atStart => exact H2.out
  case round =>
    obtain ⟨i, l, A8, n8, c8, R, hi60, hins, rfl, rfl, hP⟩ := hrel
    have HP := Lib.hid hP
    have HI := Lib.hid (And.intro hi60 hins)
    clear hP hi60 hins H2
    by_cases h3 : i < ns
    · have h3' : (i : Int) < (ns : Int) := by omega
      by_cases h4 : i < 60
      · have h4' : (i : Int) < 60 := by omega
        have hadd := IntWalk.i64_in ((i : Int) + 1) (by omega)
        obtain ⟨b, off, a, rfl, hbS, hbl, ha, hcl⟩ := HN.out.1.ros.at_ h3
        have hby := HN.out.1.each a (List.mem_of_getElem? ha)
        obtain ⟨AV, hAV⟩ : ∃ AV : Array Value, AV = (bactV a).toArray := ⟨_, rfl⟩
        have hcells : ∀ (j : Nat) (v : Value), AV[j]? = some v → wr.cell? ((⟨b, off + i * 5, none⟩ : Addr).add j) = some v := fun j v hv => by
          rw [add_plain]
          refine (HP.out.bel.cell (p := ⟨_, _, none⟩) hbl).trans (hcl j v ?_)
          rw [hAV, List.getElem?_toArray] at hv
          exact hv
        have HAV : Hid (AV = (bactV a).toArray ∧ (Try.prog.info? 33).map (·.size) = some AV.size ∧ bactZ.size = AV.size ∧ AV.all (·.oneCell') = true) := Lib.hid ⟨hAV, by rw [hAV]; exact bact_info, by rw [hAV]; rfl, by rw [hAV]; simp [bactV, Value.oneCell']⟩
        have HBY := Lib.hid hby
        have HC := Lib.hid hcells
        have hza := zero_bact
        have HGO := Lib.hid (And.intro h3 h4)
        clear hbS hbl ha hcl hby hAV hcells h3 h4
        go_upto_region 14 with (first
          | (refine wpList_load_at (by rfl) 33 (.tmp 58) (by rfl) ⟨b, off + i * 5, none⟩ (by rfl) AV _ HC.out Try.underlying33 (by rfl) HAV.out.2.1 ?_)
          | (refine wpList_store_row (by rfl) 33 (.tmp 10) (.tmp 59) (by rfl) wr.heap.size AV (by rfl) (by rfl) 33 bactZ (heap_alloc_new wr _) HAV.out.2.1 HAV.out.2.2.1 HAV.out.2.2.2 ?_))
        have hal : Below wr.heap.size wr ((wr.alloc (.cells bactZ 33)).setRow wr.heap.size AV) := below_setRow ((Below.refl _ _).alloc (Nat.le_refl _) _) (Nat.le_refl _) _
        have hpa : ((wr.alloc (.cells bactZ 33)).setRow wr.heap.size AV).heap[wr.heap.size]? = some (.cells AV 33 (0, 0)) := setRow_at (heap_alloc_new wr _)
        obtain ⟨R5, hR5⟩ : ∃ R5, R5 = moreB wr ((wr.alloc (.cells bactZ 33)).setRow wr.heap.size AV) R := ⟨_, rfl⟩
        have hP5 := HP.out.more hal
        have hRp : R5 wr.heap.size := by rw [hR5]; exact .inr ⟨Nat.le_refl _, by simp [World.setRow]⟩
        rw [← hR5] at hP5
        have H5 := Lib.hid (And.intro hP5 (And.intro hpa hRp))
        clear hal hpa hP5 hR5 hRp hza HC HP
        generalize ((wr.alloc (.cells bactZ 33)).setRow wr.heap.size AV) = w5 at *
        generalize wr.heap.size = pa at *
        have hc3 : w5.cell? ⟨pa, 3, none⟩ = some (.slice a.A a.n a.c) := by rw [cell_of_cells H5.out.2.1, HAV.out.1]; rfl
        by_cases hbig : 200 < a.n
        · have hbig' : (200 : Int) < (a.n : Int) := by omega
          clear hbig
          go_wp2_with fail
          go_ret
          exact ⟨rfl, H5.out.1.bel⟩
        · have hbig' : ¬ (200 : Int) < (a.n : Int) := by omega
          have HBG := Lib.hid (show a.n ≤ 200 by omega)
          clear hbig
          have hc0 : w5.cell? ⟨pa, 0, none⟩ = some (.int .i64 a.kd) := by rw [cell_of_cells H5.out.2.1, HAV.out.1]; rfl
          obtain ⟨K, hK⟩ : ∃ K, K = a.kd.tmod 5 := ⟨_, rfl⟩
          have hK2 := hK.symm
          clear hK
          go_upto_block 2 with fail
          clear hc0 hK2 hc3
          go_cut [8, 11, 12, 13, 14, 15, 16, 17, 18, 19, 20] from 68 to 176 (fun lv f g _ _ _ _ _ _ _ _ wx => RB2 w m p N pa AV i lv f g wx)
          case first =>
            by_cases hK : K = 0 ∨ K = 1
            · rcases hK with rfl | rfl
              all_goals
                obtain ⟨MV, hMV⟩ : ∃ MV, MV = mgV a.f a.t a.A a.n a.c := ⟨_, rfl⟩
                have hcm : ∀ (j : Nat) (v : Value), MV[j]? = some v → w5.cell? ((⟨pa, 1, none⟩ : Addr).add j) = some v := fun j v hv => by
                  rw [add_plain, cell_of_cells H5.out.2.1, HAV.out.1, List.getElem?_toArray]
                  rw [hMV] at hv
                  match j, hv with
                  | 0, hv => exact hv
                  | 1, hv => exact hv
                  | 2, hv => exact hv
                  | j + 3, hv => simp [mgV] at hv
                have hput := bgput_any H5.out.1.bg (HBY.out.below H5.out.1.bel) (fun k _ h h2 => by have := H5.out.1.wm; omega) a.f a.t (by have := HBG.out; omega)
                rw [show (#[.int .i64 a.f, .int .i64 a.t, .slice a.A a.n a.c] : Array Value) = MV from hMV.symm] at hput
                have HM : Hid ((∀ (j : Nat) (v : Value), MV[j]? = some v → w5.cell? ((⟨pa, 1, none⟩ : Addr).add j) = some v) ∧ (Try.prog.info? 31).map (·.size) = some MV.size) := Lib.hid ⟨hcm, by rw [hMV]; exact mg_info _ _ _ _ _⟩
                clear hcm hMV
                go_upto_region 27 with (first
                  | (refine wpList_load_at (by rfl) 31 (.tmp 87) (by rfl) ⟨pa, 1, none⟩ (by rfl) MV _ HM.out.1 Try.underlying31 (by rfl) HM.out.2 ?_)
                  | (go_at_call 9; refine hput.mono ?_; clear hput; rintro _ w6 ⟨rfl, hg6, ht6⟩))
                have hpa6 := (ht6.block pa (lt_of_cells H5.out.2.1) (fun h => h.2 H5.out.2.2)).trans H5.out.2.1
                have hrs6 := H5.out.1.rs.turned ht6 fun k _ h1 h2 => h2.2 h1
                have hby6 := (HBY.out.below H5.out.1.bel).turned ht6 fun k _ h1 h2 => by have := H5.out.1.wm; omega
                have hc1 : w6.cell? ⟨pa, 1, none⟩ = some (.int .i64 a.f) := by rw [cell_of_cells hpa6, HAV.out.1]; rfl
                have hc2 : w6.cell? ⟨pa, 2, none⟩ = some (.int .i64 a.t) := by rw [cell_of_cells hpa6, HAV.out.1]; rfl
                have hc3 : w6.cell? ⟨pa, 3, none⟩ = some (.slice a.A a.n a.c) := by rw [cell_of_cells hpa6, HAV.out.1]; rfl
                have hcs := byt_string hby6
                have hrp := rbput_any (N := N) (m := ⟨a.f, a.t, a.b, 0⟩) hrs6 (by have h1 := HBY.out.len; have h2 := HBG.out; show a.b.length ≤ 1000000; omega) (by have h1 := hrs6.len; have h2 := H5.out.1.bg.few; omega)
                have hab : a.b.length ≤ 200 := by have h1 := HBY.out.len; have h2 := HBG.out; omega
                obtain ⟨r, hr⟩ : ∃ r, r = putB N l ⟨a.f, a.t, a.b, 0⟩ := ⟨_, rfl⟩
                rw [← hr] at hg6 hrp ⊢
                have hag : ∀ x ∈ r.1, x.a ≤ i + 1 ∧ x.b.length ≤ 200 := fun x hx => by
                  rw [hr] at hx
                  rcases putB_mem hx with h | h
                  · have := H5.out.1.ag x h; omega
                  · rw [h]; exact ⟨Nat.zero_le _, hab⟩
                unfold BpPost at hrp
                have H6 := Lib.hid (And.intro hg6 (And.intro ht6 (And.intro hpa6 hag)))
                clear hg6 ht6 hpa6 hrs6 hby6 hag hab hr
                obtain ⟨l2, E2⟩ := r
                simp only at hrp
                go_wp2_with (first
                  | (refine wpList_built (by rfl) 38 #[(0, .tmp 95), (1, .tmp 98), (2, .tmp 102)] (by rfl) [(0, .int .i64 a.f), (1, .int .i64 a.t), (2, .string (st a.b))] (by rfl) _ (bm_built3 _ _ _) ?_)
                  | (go_at_call 10; refine hrp.mono ?_; clear hrp; rintro _ w7 ⟨A7, n7, c7, rfl, hr7, hb7⟩; have H7 := Lib.hid (And.intro hr7 hb7); clear hr7 hb7))
                go_meet
                unfold RB2
                exact ⟨l2, A7, n7, c7, _, E2, rfl, rfl, rfl, H5.out.1.step H6.out.1 H6.out.2.1 H7.out.1 (fun k _ h => h) H7.out.2 H6.out.2.2.2, (H7.out.2.block _ (lt_of_cells H6.out.2.2.1)).trans H6.out.2.2.1, .inl H5.out.2.2⟩
            · by_cases hK2 : K = 2
              · subst hK2
                clear hK
                have hl8 := H5.out.1.rs.len
                have hfew := H5.out.1.bg.few
                by_cases hr : 0 ≤ a.i ∧ a.i < (l.length : Int)
                · obtain ⟨k, hk⟩ := Int.eq_ofNat_of_zero_le hr.1
                  have hkl : k < l.length := by omega
                  obtain ⟨x, hx⟩ : ∃ x, l[k]? = some x := ⟨_, List.getElem?_eq_getElem hkl⟩
                  have htk := bgtake_ok H5.out.1.bg hx
                  have hc4 : w5.cell? ⟨pa, 4, none⟩ = some (.int .i64 (k : Int)) := by rw [cell_of_cells H5.out.2.1, HAV.out.1]; simp [bactV, hk]
                  have hz := zero_mg
                  obtain ⟨Z0, hZ0⟩ : ∃ Z0, Z0 = mgV 0 0 none 0 0 := ⟨_, rfl⟩
                  rw [← hZ0] at hz
                  have HZ0 := Lib.hid hZ0
                  clear hZ0
                  go_upto_region 30 with (first
                    | (go_at_call 11; refine htk.mono ?_; clear htk; rintro _ w6 ⟨A6, n6, c6, Q, rfl, hy6, hg6, ht6⟩
                       obtain ⟨GV, hGV⟩ : ∃ GV, GV = mgV x.f x.t A6 n6 c6 := ⟨_, rfl⟩
                       rw [show (#[.int .i64 x.f, .int .i64 x.t, .slice A6 n6 c6] : Array Value) = GV from hGV.symm]
                       have H6 := Lib.hid (And.intro hy6 (And.intro (hg6.mono (T := fun k => (m ≤ k ∧ ¬ R5 k) ∨ w5.heap.size ≤ k) fun k _ h => h.1) ht6))
                       have HGV : Hid (GV = mgV x.f x.t A6 n6 c6 ∧ (Try.prog.info? 31).map (·.size) = some GV.size ∧ Z0.size = GV.size ∧ GV.all (·.oneCell') = true) := Lib.hid ⟨hGV, by rw [hGV]; exact mg_info _ _ _ _ _, by rw [hGV, HZ0.out] <;> rfl, by rw [hGV]; exact mg_one _ _ _ _ _⟩
                       clear hy6 hg6 ht6 hGV)
                    | (refine wpList_store_row (by rfl) 31 (.tmp 13) (.tmp 114) (by rfl) w6.heap.size GV (by rfl) (by rfl) 31 Z0 (heap_alloc_new w6 _) HGV.out.2.1 HGV.out.2.2.1 HGV.out.2.2.2 ?_))
                  clear hc4 hz
                  have hal : Below w6.heap.size w6 ((w6.alloc (.cells Z0 31)).setRow w6.heap.size GV) := below_setRow ((Below.refl _ _).alloc (Nat.le_refl _) _) (Nat.le_refl _) _
                  have hq7 : ((w6.alloc (.cells Z0 31)).setRow w6.heap.size GV).heap[w6.heap.size]? = some (.cells GV 31 (0, 0)) := setRow_at (heap_alloc_new w6 _)
                  have H7 := Lib.hid (And.intro hal hq7)
                  clear hal hq7 HZ0
                  generalize (w6.alloc (.cells Z0 31)).setRow w6.heap.size GV = w7 at *
                  have hpa7 := (H7.out.1.block _ (Nat.lt_of_lt_of_le (lt_of_cells H5.out.2.1) H6.out.2.2.size)).trans ((H6.out.2.2.block pa (lt_of_cells H5.out.2.1) (fun h => h.2 H5.out.2.2)).trans H5.out.2.1)
                  have hrs7 := (H5.out.1.rs.turned H6.out.2.2 fun k _ h1 h2 => h2.2 h1).below H7.out.1
                  have hy7 := H6.out.1.below H7.out.1
                  have hrt := rbtake_ok hrs7 (i := k) (by omega) (by omega) hx
                  obtain ⟨XV, hXV⟩ : ∃ XV : Array Value, XV = #[.int .i64 x.f, .int .i64 x.t, .string (st x.b), .int .i64 (x.a : Int)] := ⟨_, rfl⟩
                  rw [← hXV] at hrt
                  have HG6 := Lib.hid (And.intro H6.out.2.1 H6.out.2.2)
                  have HTK : Hid (∀ z ∈ takeB l k, z.a ≤ i + 1 ∧ z.b.length ≤ 200) := Lib.hid fun z hz => by have := H5.out.1.ag z (takeB_mem hz); omega
                  have hc4 : w7.cell? ⟨pa, 4, none⟩ = some (.int .i64 (k : Int)) := by rw [cell_of_cells hpa7, HAV.out.1]; simp [bactV, hk]
                  have hzb := zero_bm
                  rw [show (#[.int .i64 0, .int .i64 0, .string ⟨#[]⟩, .int .i64 0] : Array Value) = bm0 from rfl] at hzb
                  have HXV : Hid ((Try.prog.info? 38).map (·.size) = some XV.size ∧ bm0.size = XV.size ∧ XV.all (·.oneCell') = true ∧ XV[0]? = some (.int .i64 x.f) ∧ XV[1]? = some (.int .i64 x.t) ∧ XV[2]? = some (.string (st x.b))) := Lib.hid ⟨by rw [hXV]; exact bm_info, by rw [hXV] <;> rfl, by rw [hXV]; simp [Value.oneCell'], by rw [hXV]; rfl, by rw [hXV]; rfl, by rw [hXV]; rfl⟩
                  have HP7 := Lib.hid (And.intro hpa7 (And.intro hy7 trivial))
                  clear hpa7 hXV hy7 hrs7 hl8 hfew hkl hx hk hr
                  go_upto_region 31 with (first
                    | (go_at_call 12; refine hrt.mono ?_; clear hrt; rintro _ w8 ⟨A8', n8', c8', rfl, hr8, hb8⟩; have H8 := Lib.hid (And.intro hr8 hb8); clear hr8 hb8)
                    | (refine wpList_store_row (by rfl) 38 (.tmp 16) (.tmp 122) (by rfl) w8.heap.size XV (by rfl) (by rfl) 38 bm0 (heap_alloc_new w8 _) HXV.out.1 HXV.out.2.1 HXV.out.2.2.1 ?_))
                  clear hc4 hzb
                  have hal : Below w8.heap.size w8 ((w8.alloc (.cells bm0 38)).setRow w8.heap.size XV) := below_setRow ((Below.refl _ _).alloc (Nat.le_refl _) _) (Nat.le_refl _) _
                  have hq9 : ((w8.alloc (.cells bm0 38)).setRow w8.heap.size XV).heap[w8.heap.size]? = some (.cells XV 38 (0, 0)) := setRow_at (heap_alloc_new w8 _)
                  have HL9 := Lib.hid (And.intro hal hq9)
                  clear hal hq9
                  generalize (w8.alloc (.cells bm0 38)).setRow w8.heap.size XV = w9 at *
                  have hb79 := H8.out.2.trans (HL9.out.1.mono H8.out.2.size)
                  have hg9 := (hb79.block _ (lt_of_cells H7.out.2)).trans H7.out.2
                  have hm0 : w9.cell? ⟨w6.heap.size, 0, none⟩ = some (.int .i64 x.f) := by rw [cell_of_cells hg9, HGV.out.1]; rfl
                  have hm1 : w9.cell? ⟨w6.heap.size, 1, none⟩ = some (.int .i64 x.t) := by rw [cell_of_cells hg9, HGV.out.1]; rfl
                  have hm2 : w9.cell? ⟨w6.heap.size, 2, none⟩ = some (.slice A6 n6 c6) := by rw [cell_of_cells hg9, HGV.out.1]; rfl
                  have hx0 : w9.cell? ⟨w8.heap.size, 0, none⟩ = some (.int .i64 x.f) := by rw [cell_of_cells HL9.out.2]; exact HXV.out.2.2.2.1
                  have hx1 : w9.cell? ⟨w8.heap.size, 1, none⟩ = some (.int .i64 x.t) := by rw [cell_of_cells HL9.out.2]; exact HXV.out.2.2.2.2.1
                  have hx2 : w9.cell? ⟨w8.heap.size, 2, none⟩ = some (.string (st x.b)) := by rw [cell_of_cells HL9.out.2]; exact HXV.out.2.2.2.2.2
                  have hcs : (convert 29 9 (.slice A6 n6 c6)).run Try.prog w9 = .ok (.string (st x.b)) w9 := byt_string (HP7.out.2.1.below hb79)
                  have HF := Lib.hid (show RB2 w m p N pa AV i (.slice A8' n8' c8') (.int .i64 0) (.int .i64 0) w9 from by
                    unfold RB2
                    exact ⟨takeB l k, A8', n8', c8', _, 0, rfl, rfl, rfl, H5.out.1.step HG6.out.1 HG6.out.2 (H8.out.1.below HL9.out.1) (fun k _ h => .inr (Nat.le_trans H7.out.1.size h)) (H7.out.1.trans (hb79.mono H7.out.1.size)) HTK.out, (hb79.block _ (lt_of_cells HP7.out.1)).trans HP7.out.1, .inl H5.out.2.2⟩)
                  clear hb79 hg9
                  go_wp2_with fail
                  go_meet
                  exact HF.out
                · have htk := bgtake_no H5.out.1.bg a.i (by omega)
                  have hc4 : w5.cell? ⟨pa, 4, none⟩ = some (.int .i64 a.i) := by rw [cell_of_cells H5.out.2.1, HAV.out.1]; rfl
                  have hz := zero_mg
                  obtain ⟨Z0, hZ0⟩ : ∃ Z0, Z0 = mgV 0 0 none 0 0 := ⟨_, rfl⟩
                  rw [← hZ0] at hz
                  have HZ0 := Lib.hid hZ0
                  clear hZ0
                  go_upto_region 30 with (first
                    | (go_at_call 11; refine htk.mono ?_; clear htk; rintro _ w6 ⟨rfl, hb6⟩
                       obtain ⟨GV, hGV⟩ : ∃ GV, GV = mgV 0 0 none 0 0 := ⟨_, rfl⟩
                       rw [show (#[.int .i64 0, .int .i64 0, .slice none 0 0] : Array Value) = GV from hGV.symm]
                       have H6 := Lib.hid hb6
                       have HGV : Hid (GV = mgV 0 0 none 0 0 ∧ (Try.prog.info? 31).map (·.size) = some GV.size ∧ Z0.size = GV.size ∧ GV.all (·.oneCell') = true) := Lib.hid ⟨hGV, by rw [hGV]; exact mg_info _ _ _ _ _, by rw [hGV, HZ0.out] <;> rfl, by rw [hGV]; exact mg_one _ _ _ _ _⟩
                       clear hb6 hGV)
                    | (refine wpList_store_row (by rfl) 31 (.tmp 13) (.tmp 114) (by rfl) w6.heap.size GV (by rfl) (by rfl) 31 Z0 (heap_alloc_new w6 _) HGV.out.2.1 HGV.out.2.2.1 HGV.out.2.2.2 ?_))
                  clear hc4 hz
                  have hal : Below w6.heap.size w6 ((w6.alloc (.cells Z0 31)).setRow w6.heap.size GV) := below_setRow ((Below.refl _ _).alloc (Nat.le_refl _) _) (Nat.le_refl _) _
                  have hq7 : ((w6.alloc (.cells Z0 31)).setRow w6.heap.size GV).heap[w6.heap.size]? = some (.cells GV 31 (0, 0)) := setRow_at (heap_alloc_new w6 _)
                  have H7 := Lib.hid (And.intro hal hq7)
                  clear hal hq7 HZ0
                  generalize (w6.alloc (.cells Z0 31)).setRow w6.heap.size GV = w7 at *
                  have hpa7 := (H7.out.1.block _ (Nat.lt_of_lt_of_le (lt_of_cells H5.out.2.1) H6.out.size)).trans ((H6.out.block _ (lt_of_cells H5.out.2.1)).trans H5.out.2.1)
                  have hP7 := (H5.out.1.below H6.out).below H7.out.1
                  have hy7 : Byt w7 (fun _ => False) none 0 0 [] := Byt.nil _ _ _ _ (Nat.zero_le _)
                  have hrt := rbtake_no hP7.rs a.i (by omega)
                  obtain ⟨XV, hXV⟩ : ∃ XV : Array Value, XV = bm0 := ⟨_, rfl⟩
                  rw [← hXV] at hrt
                  have hc4 : w7.cell? ⟨pa, 4, none⟩ = some (.int .i64 a.i) := by rw [cell_of_cells hpa7, HAV.out.1]; rfl
                  have hzb := zero_bm
                  rw [show (#[.int .i64 0, .int .i64 0, .string ⟨#[]⟩, .int .i64 0] : Array Value) = bm0 from rfl] at hzb
                  have HXV : Hid ((Try.prog.info? 38).map (·.size) = some XV.size ∧ bm0.size = XV.size ∧ XV.all (·.oneCell') = true ∧ XV[0]? = some (.int .i64 0) ∧ XV[1]? = some (.int .i64 0) ∧ XV[2]? = some (.string ⟨#[]⟩)) := Lib.hid ⟨by rw [hXV]; exact bm_info, by rw [hXV] <;> rfl, by rw [hXV]; simp [bm0, Value.oneCell'], by rw [hXV]; rfl, by rw [hXV]; rfl, by rw [hXV]; rfl⟩
                  have HP7 := Lib.hid (And.intro hpa7 (And.intro hy7 hP7))
                  clear hpa7 hXV hy7 hP7 hl8 hfew hr
                  go_upto_region 31 with (first
                    | (go_at_call 12; refine hrt.mono ?_; clear hrt; rintro _ w8 ⟨rfl, hb8⟩; have H8 := Lib.hid hb8; clear hb8)
                    | (refine wpList_store_row (by rfl) 38 (.tmp 16) (.tmp 122) (by rfl) w8.heap.size XV (by rfl) (by rfl) 38 bm0 (heap_alloc_new w8 _) HXV.out.1 HXV.out.2.1 HXV.out.2.2.1 ?_))
                  clear hc4 hzb
                  have hal : Below w8.heap.size w8 ((w8.alloc (.cells bm0 38)).setRow w8.heap.size XV) := below_setRow ((Below.refl _ _).alloc (Nat.le_refl _) _) (Nat.le_refl _) _
                  have hq9 : ((w8.alloc (.cells bm0 38)).setRow w8.heap.size XV).heap[w8.heap.size]? = some (.cells XV 38 (0, 0)) := setRow_at (heap_alloc_new w8 _)
                  have HL9 := Lib.hid (And.intro hal hq9)
                  clear hal hq9
                  generalize (w8.alloc (.cells bm0 38)).setRow w8.heap.size XV = w9 at *
                  have hb79 := H8.out.trans (HL9.out.1.mono H8.out.size)
                  have hg9 := (hb79.block _ (lt_of_cells H7.out.2)).trans H7.out.2
                  have hm0 : w9.cell? ⟨w6.heap.size, 0, none⟩ = some (.int .i64 0) := by rw [cell_of_cells hg9, HGV.out.1]; rfl
                  have hm1 : w9.cell? ⟨w6.heap.size, 1, none⟩ = some (.int .i64 0) := by rw [cell_of_cells hg9, HGV.out.1]; rfl
                  have hm2 : w9.cell? ⟨w6.heap.size, 2, none⟩ = some (.slice none 0 0) := by rw [cell_of_cells hg9, HGV.out.1]; rfl
                  have hx0 : w9.cell? ⟨w8.heap.size, 0, none⟩ = some (.int .i64 0) := by rw [cell_of_cells HL9.out.2]; exact HXV.out.2.2.2.1
                  have hx1 : w9.cell? ⟨w8.heap.size, 1, none⟩ = some (.int .i64 0) := by rw [cell_of_cells HL9.out.2]; exact HXV.out.2.2.2.2.1
                  have hx2 : w9.cell? ⟨w8.heap.size, 2, none⟩ = some (.string ⟨#[]⟩) := by rw [cell_of_cells HL9.out.2]; exact HXV.out.2.2.2.2.2
                  have hcs : (convert 29 9 (.slice none 0 0)).run Try.prog w9 = .ok (.string ⟨#[]⟩) w9 := byt_string (HP7.out.2.1.below hb79)
                  have HF := Lib.hid (show RB2 w m p N pa AV i (.slice A8 n8 c8) (.int .i64 0) (.int .i64 0) w9 from by
                    unfold RB2
                    have hP9 := HP7.out.2.2.below hb79
                    exact ⟨l, A8, n8, c8, R5, 0, rfl, rfl, rfl, ⟨hP9.bg, hP9.rs, hP9.rb, hP9.bel, hP9.wm, hP9.top, fun x hx => by have := hP9.ag x hx; omega⟩, (hb79.block _ (lt_of_cells HP7.out.1)).trans HP7.out.1, H5.out.2.2⟩)
                  clear hb79 hg9
                  go_wp2_with fail
                  go_meet
                  exact HF.out
              · by_cases hK3 : K = 3
                · subst hK3
                  clear hK hK2
                  have hl8 := H5.out.1.rs.len
                  have hfew := H5.out.1.bg.few
                  by_cases hr : 0 ≤ a.i ∧ a.i < (l.length : Int)
                  · obtain ⟨k, hk⟩ := Int.eq_ofNat_of_zero_le hr.1
                    have hkl : k < l.length := by omega
                    obtain ⟨x, hx⟩ : ∃ x, l[k]? = some x := ⟨_, List.getElem?_eq_getElem hkl⟩
                    have hcp := bgcopy_ok H5.out.1.bg hx
                    have hc4 : w5.cell? ⟨pa, 4, none⟩ = some (.int .i64 (k : Int)) := by rw [cell_of_cells H5.out.2.1, HAV.out.1]; simp [bactV, hk]
                    go_upto_region 36 with (go_at_call 13; refine hcp.mono ?_; clear hcp; rintro _ w6 ⟨rfl, hg6, ht6⟩)
                    clear hc4
                    have hpa6 := (ht6.block pa (lt_of_cells H5.out.2.1) (fun h => h.2 H5.out.2.2)).trans H5.out.2.1
                    have hrs6 := H5.out.1.rs.turned ht6 fun k _ h1 h2 => h2.2 h1
                    have hc4 : w6.cell? ⟨pa, 4, none⟩ = some (.int .i64 (k : Int)) := by rw [cell_of_cells hpa6, HAV.out.1]; simp [bactV, hk]
                    obtain ⟨b8, o8, y, hA8, _, hb8, hy, hcl⟩ := hrs6.at_ (i := k) (by omega)
                    obtain rfl : y = x := by rw [hx] at hy; injection hy with hy; exact hy.symm
                    have hxl := H5.out.1.ag y (List.mem_of_getElem? hx)
                    have hrp := rbput_any (N := N) (m := y) hrs6 (by omega) (by omega)
                    obtain ⟨XV, hXV⟩ : ∃ XV : Array Value, XV = #[.int .i64 y.f, .int .i64 y.t, .string (st y.b), .int .i64 (y.a : Int)] := ⟨_, rfl⟩
                    rw [← hXV] at hrp
                    subst hA8
                    have HX : Hid ((∀ (j : Nat) (v : Value), XV[j]? = some v → w6.cell? ((⟨b8, o8 + k * 4, none⟩ : Addr).add j) = some v) ∧ (Try.prog.info? 38).map (·.size) = some XV.size) := Lib.hid ⟨fun j v hv => by
                      rw [add_plain]
                      refine hcl j v ?_
                      rw [hXV, List.getElem?_toArray] at hv
                      exact hv, by rw [hXV]; exact bm_info⟩
                    have hlt : (k : Int) < (n8 : Int) := by omega
                    obtain ⟨r, hr'⟩ : ∃ r, r = putB N l y := ⟨_, rfl⟩
                    rw [← hr'] at hg6 hrp ⊢
                    have hag : ∀ z ∈ r.1, z.a ≤ i + 1 ∧ z.b.length ≤ 200 := fun z hz => by
                      rw [hr'] at hz
                      rcases putB_mem hz with h | h
                      · have := H5.out.1.ag z h; omega
                      · rw [h]; exact ⟨Nat.zero_le _, hxl.2⟩
                    unfold BpPost at hrp
                    have H6 := Lib.hid (And.intro hg6 (And.intro ht6 (And.intro hpa6 hag)))
                    clear hg6 ht6 hpa6 hrs6 hag hr' hxl hcl hb8 hy hx hkl hr hXV hl8 hfew hk
                    obtain ⟨l2, E2⟩ := r
                    simp only at hrp
                    go_wp2_with (first
                      | (refine wpList_load_at (by rfl) 38 (.tmp 172) (by rfl) ⟨b8, o8 + k * 4, none⟩ (by rfl) XV _ HX.out.1 Try.underlying38 (by rfl) HX.out.2 ?_)
                      | (go_at_call 10; refine hrp.mono ?_; clear hrp; rintro _ w7 ⟨A7, n7, c7, rfl, hr7, hb7⟩; have H7 := Lib.hid (And.intro hr7 hb7); clear hr7 hb7))
                    go_meet
                    unfold RB2
                    exact ⟨l2, A7, n7, c7, _, E2, rfl, rfl, rfl, H5.out.1.step H6.out.1 H6.out.2.1 H7.out.1 (fun k _ h => h) H7.out.2 H6.out.2.2.2, (H7.out.2.block _ (lt_of_cells H6.out.2.2.1)).trans H6.out.2.2.1, .inl H5.out.2.2⟩
                  · have hcp := bgcopy_no H5.out.1.bg a.i (by omega)
                    have hc4 : w5.cell? ⟨pa, 4, none⟩ = some (.int .i64 a.i) := by rw [cell_of_cells H5.out.2.1, HAV.out.1]; rfl
                    go_upto_region 36 with (go_at_call 13; refine hcp.mono ?_; clear hcp; rintro _ w6 ⟨rfl, hb6⟩)
                    clear hc4
                    have hpa6 := (hb6.block _ (lt_of_cells H5.out.2.1)).trans H5.out.2.1
                    have hc4 : w6.cell? ⟨pa, 4, none⟩ = some (.int .i64 a.i) := by rw [cell_of_cells hpa6, HAV.out.1]; rfl
                    have hP6 := H5.out.1.below hb6
                    have H6 := Lib.hid (And.intro hpa6 (show BP w m p N A8 n8 c8 l R5 (i + 1) w6 from ⟨hP6.bg, hP6.rs, hP6.rb, hP6.bel, hP6.wm, hP6.top, fun x hx => by have := hP6.ag x hx; omega⟩))
                    clear hpa6 hb6 hP6 hfew
                    by_cases h0 : a.i < 0
                    · have h0' : ¬ (0 : Int) ≤ a.i := by omega
                      clear hr
                      go_wp2_with fail
                      go_meet
                      unfold RB2
                      exact ⟨l, A8, n8, c8, R5, 14, rfl, rfl, rfl, H6.out.2, H6.out.1, H5.out.2.2⟩
                    · have h0' : (0 : Int) ≤ a.i := by omega
                      have h1' : ¬ a.i < (n8 : Int) := by omega
                      clear hr
                      go_wp2_with fail
                      go_meet
                      unfold RB2
                      exact ⟨l, A8, n8, c8, R5, 14, rfl, rfl, rfl, H6.out.2, H6.out.1, H5.out.2.2⟩
                · have hb0 : (K == 0) = false := by simpa using fun h => hK (.inl h)
                  have hb1 : (K == 1) = false := by simpa using fun h => hK (.inr h)
                  have hb2 : (K == 2) = false := by simpa using hK2
                  have hb3 : (K == 3) = false := by simpa using hK3
                  clear hK hK2 hK3
                  have hl8 := H5.out.1.rs.len
                  have hfew := H5.out.1.bg.few
                  have htc := bgtick_any H5.out.1.bg (fun m hm => by have := H5.out.1.ag m hm; have := HGO.out.2; omega) a.i
                  obtain ⟨NT, hNT⟩ : ∃ NT, NT = (tickB a.i.toNat l).length := ⟨_, rfl⟩
                  rw [hl8, ← hNT] at htc
                  have HNT := Lib.hid hNT
                  clear hNT
                  have hc4 : w5.cell? ⟨pa, 4, none⟩ = some (.int .i64 a.i) := by rw [cell_of_cells H5.out.2.1, HAV.out.1]; rfl
                  go_upto_region 20 with (go_at_call 14; refine htc.mono ?_; clear htc; rintro _ w6 ⟨rfl, hg6, ht6⟩)
                  clear hc4
                  have hpa6 := (ht6.block pa (lt_of_cells H5.out.2.1) (fun h => h.2 H5.out.2.2)).trans H5.out.2.1
                  have hrs6 := H5.out.1.rs.turned ht6 fun k _ h1 h2 => h2.2 h1
                  have hc4 : w6.cell? ⟨pa, 4, none⟩ = some (.int .i64 a.i) := by rw [cell_of_cells hpa6, HAV.out.1]; rfl
                  have hrt := rbtick_any hrs6 (by omega) (fun m hm => by have := H5.out.1.ag m hm; have := HGO.out.2; omega) a.i
                  have H6 := Lib.hid (And.intro hg6 (And.intro ht6 hpa6))
                  clear hg6 ht6 hpa6 hrs6 hl8 hfew
                  go_wp2_with (go_at_call 15; refine hrt.mono ?_; clear hrt; rintro _ w7 ⟨A7, n7, c7, rfl, hr7, hb7⟩; obtain rfl : n7 = NT := by rw [HNT.out]; exact hr7.len.symm
                               have H7 := Lib.hid (And.intro hr7 hb7)
                               clear hr7 hb7)
                  go_meet
                  unfold RB2
                  exact ⟨_, A7, n7, c7, _, 0, rfl, rfl, rfl, H5.out.1.step H6.out.1 H6.out.2.1 H7.out.1 (fun k _ h => .inr h) H7.out.2 (fun x hx => by obtain ⟨y, hy, rfl⟩ := tickB_mem hx; have := H5.out.1.ag y hy; exact ⟨by show y.a + 1 ≤ i + 1; omega, this.2⟩), (H7.out.2.block _ (lt_of_cells H6.out.2.2)).trans H6.out.2.2, .inl H5.out.2.2⟩
          case rest =>
            obtain ⟨l2, A2, n2, c2, R2, E, rfl, rfl, rfl, hP2, hpa2, hRp⟩ := hcut
            have hln := bglen_any hP2.bg
            rw [hP2.rs.len] at hln
            have H8 := Lib.hid (And.intro hP2 (And.intro hpa2 hRp))
            clear hP2 hpa2 hRp H5
            go_upto_region 41 with (go_at_call 16; refine hln.mono ?_; clear hln; rintro _ wl ⟨rfl, hbl⟩; have HBL := Lib.hid hbl; clear hbl)
            have hpl := (HBL.out.block _ (lt_of_cells H8.out.2.1)).trans H8.out.2.1
            have hc2 : wl.cell? ⟨pa, 2, none⟩ = some (.int .i64 a.t) := by rw [cell_of_cells hpl, HAV.out.1]; rfl
            have hfo := bgfor_any (H8.out.1.below HBL.out).bg a.t
            obtain ⟨NF, hNF⟩ : ∃ NF, NF = (forB l2 a.t).length := ⟨_, rfl⟩
            rw [← hNF] at hfo
            have HNF := Lib.hid hNF
            clear hNF
            go_upto_region 42 with (go_at_call 17; refine hfo.mono ?_; clear hfo; rintro _ wf ⟨A9, c9, rfl, hr9, hb9⟩)
            have HF9 := Lib.hid (And.intro ((H8.out.1.below HBL.out).below hb9) (And.intro ((hb9.block _ (lt_of_cells hpl)).trans hpl) (And.intro hr9 HNF.out)))
            clear hc2 hpl hr9 hb9 HNF HBL
            go_wp2_with fail
            go_loopw [22, 23] (fun kv jv wx => RIb wf l2 a.t kv jv wx) (fun _ jv _ => n2 - (intOf jv).toNat)
            case atStart => exact ⟨0, Nat.zero_le _, rfl, rfl, Below.refl _ _⟩
            case round =>
              obtain ⟨j, hj, rfl, rfl, hbx⟩ := hrel
              have HBX := Lib.hid hbx
              clear hbx
              by_cases hlt : j < n2
              · have hlt' : (j : Int) < (n2 : Int) := by omega
                have hl2 : l2.length = n2 := H8.out.1.rs.len
                have hfew := H8.out.1.bg.few
                obtain ⟨b2, o2, x, hA2, _, hb2, hx, hcl⟩ := HF9.out.1.rs.at_ hlt
                subst hA2
                have hc1 := hcl 1 (.int .i64 x.t) rfl
                have HX := Lib.hid (And.intro hb2 (And.intro hc1 (And.intro (isB_eq (t := a.t) hx) (show j < l2.length by omega))))
                have HW2 : Hid (wf.cell? ⟨pa, 2, none⟩ = some (.int .i64 a.t) ∧ pa < wf.heap.size) := Lib.hid ⟨by rw [cell_of_cells HF9.out.2.1, HAV.out.1]; rfl, lt_of_cells HF9.out.2.1⟩
                have hadd1 := IntWalk.i64_in ((j : Int) + 1) (by omega)
                have hcj : cntB l2 a.t j ≤ j := by unfold cntB; exact Nat.le_trans (List.length_filter_le _ _) (by simp)
                have hadd2 := IntWalk.i64_in ((cntB l2 a.t j : Int) + 1) (by omega)
                have HJ := Lib.hid (And.intro hlt hl2)
                clear hb2 hx hcl hc1 hlt hj hl2 hfew hcj
                go_upto_region 46 with fail
                by_cases hxt : x.t = a.t
                · have hxt' : (x.t != a.t) = false := by simpa using hxt
                  have HXT := Lib.hid hxt
                  clear hxt
                  refine wp_region_grow (fun W W' => Below W.heap.size W W') (Grow.nth [fun v _ => v = .slice (some ⟨b2, o2, none⟩) n2 c2, fun v _ => v = .int .i64 (j : Int), fun v _ => v = .pointer (some ⟨b2, o2 + j * 4, none⟩), fun v _ => v = .pointer (some ⟨b2, o2 + j * 4 + 1, none⟩), fun v _ => v = .int .i64 x.t, fun v _ => v = .pointer (some ⟨pa, 1, none⟩), fun v _ => v = .pointer (some ⟨pa, 2, none⟩), fun v _ => v = .int .i64 a.t, fun v _ => v = .bool false]) 225 (by kernel_rfl) (by kernel_rfl) (by rfl) (fun W => Below.refl _ W) (fun _ _ _ h1 h2 => h1.trans (h2.mono h1.size)) (Grow.mono_nth ?gmono) ?gsteps ?gfin
                  case gmono => exact ⟨fun _ _ _ h _ => h, fun _ _ _ h _ => h, fun _ _ _ h _ => h, fun _ _ _ h _ => h, fun _ _ _ h _ => h, fun _ _ _ h _ => h, fun _ _ _ h _ => h, fun _ _ _ h _ => h, fun _ _ _ h _ => h, trivial⟩
                  case gsteps =>
                    show Grow.allBelow _ 9
                    refine And.intro ?_ ?s8
                    refine And.intro ?_ ?s7
                    refine And.intro ?_ ?s6
                    refine And.intro ?_ ?s5
                    refine And.intro ?_ ?s4
                    refine And.intro ?_ ?s3
                    refine And.intro ?_ ?s2
                    refine And.intro ?_ ?s1
                    refine And.intro ?_ ?s0
                    exact trivial
                    case s0 =>
                      refine Grow.step_in (by rfl) (by rfl) ?_
                      intro E W ec eg ef hG hd hu R HR1
                      have e8 : E (.tmp 8) = .slice (some ⟨b2, o2, none⟩) n2 c2 := hu 8 (by kernel_rfl)
                      clear hd hu
                      go_simp
                      exact HR1.out _ _ (Below.refl _ _) rfl
                    case s1 =>
                      refine Grow.step_in (by rfl) (by rfl) ?_
                      intro E W ec eg ef hG hd hu R HR1
                      have e23 : E (.tmp 23) = .int .i64 (j : Int) := hu 23 (by kernel_rfl)
                      clear hd hu
                      go_simp
                      exact HR1.out _ _ (Below.refl _ _) rfl
                    case s2 =>
                      refine Grow.step_in (by rfl) (by rfl) ?_
                      intro E W ec eg ef hG hd hu R HR1
                      have e198 : E (.tmp 198) = .slice (some ⟨b2, o2, none⟩) n2 c2 := hd 0 198 (by kernel_rfl)
                      have e199 : E (.tmp 199) = .int .i64 (j : Int) := hd 1 199 (by kernel_rfl)
                      clear hd hu
                      have hjl := HJ.out.1
                      go_simp
                      first | exact HR1.out _ _ (Below.refl _ _) rfl | (rw [if_pos ⟨by omega, by omega⟩]; exact HR1.out _ _ (Below.refl _ _) rfl)
                    case s3 =>
                      refine Grow.step_in (by rfl) (by rfl) ?_
                      intro E W ec eg ef hG hd hu R HR1
                      have e200 : E (.tmp 200) = .pointer (some ⟨b2, o2 + j * 4, none⟩) := hd 2 200 (by kernel_rfl)
                      clear hd hu
                      go_simp
                      exact HR1.out _ _ (Below.refl _ _) rfl
                    case s4 =>
                      refine Grow.step_in (by rfl) (by rfl) ?_
                      intro E W ec eg ef hG hd hu R HR1
                      have e201 : E (.tmp 201) = .pointer (some ⟨b2, o2 + j * 4 + 1, none⟩) := hd 3 201 (by kernel_rfl)
                      clear hd hu
                      have hcl := ((hG.cell (p := ⟨b2, o2 + j * 4 + 1, none⟩) (Nat.lt_of_lt_of_le HX.out.1 HBX.out.size)).trans (HBX.out.cell (p := ⟨b2, o2 + j * 4 + 1, none⟩) HX.out.1)).trans HX.out.2.1
                      go_simp
                      exact HR1.out _ _ (Below.refl _ _) rfl
                    case s5 =>
                      refine Grow.step_in (by rfl) (by rfl) ?_
                      intro E W ec eg ef hG hd hu R HR1
                      have e10 : E (.tmp 10) = .pointer (some ⟨pa, 0, none⟩) := hu 10 (by kernel_rfl)
                      clear hd hu
                      go_simp
                      exact HR1.out _ _ (Below.refl _ _) rfl
                    case s6 =>
                      refine Grow.step_in (by rfl) (by rfl) ?_
                      intro E W ec eg ef hG hd hu R HR1
                      have e203 : E (.tmp 203) = .pointer (some ⟨pa, 1, none⟩) := hd 5 203 (by kernel_rfl)
                      clear hd hu
                      go_simp
                      exact HR1.out _ _ (Below.refl _ _) rfl
                    case s7 =>
                      refine Grow.step_in (by rfl) (by rfl) ?_
                      intro E W ec eg ef hG hd hu R HR1
                      have e204 : E (.tmp 204) = .pointer (some ⟨pa, 2, none⟩) := hd 6 204 (by kernel_rfl)
                      clear hd hu
                      have hcl := ((hG.cell (p := ⟨pa, 2, none⟩) (Nat.lt_of_lt_of_le HW2.out.2 HBX.out.size)).trans (HBX.out.cell (p := ⟨pa, 2, none⟩) HW2.out.2)).trans HW2.out.1
                      go_simp
                      exact HR1.out _ _ (Below.refl _ _) rfl
                    case s8 =>
                      refine Grow.step_in (by rfl) (by rfl) ?_
                      intro E W ec eg ef hG hd hu R HR1
                      have e202 : E (.tmp 202) = .int .i64 x.t := hd 4 202 (by kernel_rfl)
                      have e205 : E (.tmp 205) = .int .i64 a.t := hd 7 205 (by kernel_rfl)
                      clear hd hu
                      go_simp
                      exact HR1.out _ _ (Below.refl _ _) rfl
                  case gfin =>
                    intro W hG
                    refine Grow.fin_dst (by rfl) ?_
                    rintro _ rfl
                    refine Grow.fin_dst (by rfl) ?_
                    rintro _ rfl
                    refine Grow.fin_dst (by rfl) ?_
                    rintro _ rfl
                    refine Grow.fin_dst (by rfl) ?_
                    rintro _ rfl
                    refine Grow.fin_dst (by rfl) ?_
                    rintro _ rfl
                    refine Grow.fin_dst (by rfl) ?_
                    rintro _ rfl
                    refine Grow.fin_dst (by rfl) ?_
                    rintro _ rfl
                    refine Grow.fin_dst (by rfl) ?_
                    rintro _ rfl
                    refine Grow.fin_dst (by rfl) ?_
                    rintro _ rfl
                    simp only [Act.put, List.setIfInBounds_toArray, List.set_cons_zero, List.set_cons_succ]
                    refine Grow.fin_end ?_

                    have HBG := Lib.hid (Grow.below_of_drew hG)
                    clear hG
                    have hfa := forB_at HX.out.2.2.2 (by rw [HX.out.2.2.1]; exact decide_eq_true HXT.out)
                    have hkn : cntB l2 a.t j < NF := by rw [HF9.out.2.2.2]; exact (List.getElem?_eq_some_iff.1 hfa).1
                    obtain ⟨b9, o9, q, hA9, _, hb9, hq, hcq⟩ := HF9.out.2.2.1.at_ hkn
                    subst hA9
                    obtain rfl : q = j := by rw [hfa] at hq; injection hq with hq; exact hq.symm
                    have hcq0 := hcq 0 (.int .i64 (q : Int)) rfl
                    have hkn' : ¬ (NF : Int) ≤ (cntB l2 a.t q : Int) := by omega
                    have hkm : cntB l2 a.t q < NF := hkn
                    have hcx : W.cell? ⟨b9, o9 + cntB l2 a.t q, none⟩ = some (.int .i64 (q : Int)) := by
                      have h := ((HBG.out.cell (p := ⟨b9, o9 + cntB l2 a.t q * 1 + 0, none⟩) (Nat.lt_of_lt_of_le hb9 HBX.out.size)).trans (HBX.out.cell (p := ⟨b9, o9 + cntB l2 a.t q * 1 + 0, none⟩) hb9)).trans hcq0
                      rw [Nat.mul_one, Nat.add_zero] at h
                      exact h
                    obtain ⟨CN, hCN⟩ : ∃ CN, CN = cntB l2 a.t q := ⟨_, rfl⟩
                    rw [← hCN] at hkn' hkm hcx hadd2 ⊢
                    have HCN := Lib.hid hCN
                    clear hfa hkn hb9 hq hcq hcq0 hCN
                    go_wp2_with fail
                    go_roundw
                    case rel => exact ⟨q + 1, by have := HX.out.2.2.2; omega, by rw [cntB_succ, if_pos (by rw [HX.out.2.2.1]; exact decide_eq_true HXT.out), ← HCN.out]; simp, by simp, HBX.out.trans (HBG.out.mono HBX.out.size)⟩
                    case measure => simp only [intOf]; have := HJ.out.1; omega
                · have hxt' : (x.t != a.t) = true := by simpa using hxt
                  have HXT := Lib.hid hxt
                  clear hxt
                  refine wp_region_grow (fun W W' => Below W.heap.size W W') (Grow.nth [fun v _ => v = .slice (some ⟨b2, o2, none⟩) n2 c2, fun v _ => v = .int .i64 (j : Int), fun v _ => v = .pointer (some ⟨b2, o2 + j * 4, none⟩), fun v _ => v = .pointer (some ⟨b2, o2 + j * 4 + 1, none⟩), fun v _ => v = .int .i64 x.t, fun v _ => v = .pointer (some ⟨pa, 1, none⟩), fun v _ => v = .pointer (some ⟨pa, 2, none⟩), fun v _ => v = .int .i64 a.t, fun v _ => v = .bool true]) 225 (by kernel_rfl) (by kernel_rfl) (by rfl) (fun W => Below.refl _ W) (fun _ _ _ h1 h2 => h1.trans (h2.mono h1.size)) (Grow.mono_nth ?gmono) ?gsteps ?gfin
                  case gmono => exact ⟨fun _ _ _ h _ => h, fun _ _ _ h _ => h, fun _ _ _ h _ => h, fun _ _ _ h _ => h, fun _ _ _ h _ => h, fun _ _ _ h _ => h, fun _ _ _ h _ => h, fun _ _ _ h _ => h, fun _ _ _ h _ => h, trivial⟩
                  case gsteps =>
                    show Grow.allBelow _ 9
                    refine And.intro ?_ ?s8
                    refine And.intro ?_ ?s7
                    refine And.intro ?_ ?s6
                    refine And.intro ?_ ?s5
                    refine And.intro ?_ ?s4
                    refine And.intro ?_ ?s3
                    refine And.intro ?_ ?s2
                    refine And.intro ?_ ?s1
                    refine And.intro ?_ ?s0
                    exact trivial
                    case s0 =>
                      refine Grow.step_in (by rfl) (by rfl) ?_
                      intro E W ec eg ef hG hd hu R HR1
                      have e8 : E (.tmp 8) = .slice (some ⟨b2, o2, none⟩) n2 c2 := hu 8 (by kernel_rfl)
                      clear hd hu
                      go_simp
                      exact HR1.out _ _ (Below.refl _ _) rfl
                    case s1 =>
                      refine Grow.step_in (by rfl) (by rfl) ?_
                      intro E W ec eg ef hG hd hu R HR1
                      have e23 : E (.tmp 23) = .int .i64 (j : Int) := hu 23 (by kernel_rfl)
                      clear hd hu
                      go_simp
                      exact HR1.out _ _ (Below.refl _ _) rfl
                    case s2 =>
                      refine Grow.step_in (by rfl) (by rfl) ?_
                      intro E W ec eg ef hG hd hu R HR1
                      have e198 : E (.tmp 198) = .slice (some ⟨b2, o2, none⟩) n2 c2 := hd 0 198 (by kernel_rfl)
                      have e199 : E (.tmp 199) = .int .i64 (j : Int) := hd 1 199 (by kernel_rfl)
                      clear hd hu
                      have hjl := HJ.out.1
                      go_simp
                      first | exact HR1.out _ _ (Below.refl _ _) rfl | (rw [if_pos ⟨by omega, by omega⟩]; exact HR1.out _ _ (Below.refl _ _) rfl)
                    case s3 =>
                      refine Grow.step_in (by rfl) (by rfl) ?_
                      intro E W ec eg ef hG hd hu R HR1
                      have e200 : E (.tmp 200) = .pointer (some ⟨b2, o2 + j * 4, none⟩) := hd 2 200 (by kernel_rfl)
                      clear hd hu
                      go_simp
                      exact HR1.out _ _ (Below.refl _ _) rfl
                    case s4 =>
                      refine Grow.step_in (by rfl) (by rfl) ?_
                      intro E W ec eg ef hG hd hu R HR1
                      have e201 : E (.tmp 201) = .pointer (some ⟨b2, o2 + j * 4 + 1, none⟩) := hd 3 201 (by kernel_rfl)
                      clear hd hu
                      have hcl := ((hG.cell (p := ⟨b2, o2 + j * 4 + 1, none⟩) (Nat.lt_of_lt_of_le HX.out.1 HBX.out.size)).trans (HBX.out.cell (p := ⟨b2, o2 + j * 4 + 1, none⟩) HX.out.1)).trans HX.out.2.1
                      go_simp
                      exact HR1.out _ _ (Below.refl _ _) rfl
                    case s5 =>
                      refine Grow.step_in (by rfl) (by rfl) ?_
                      intro E W ec eg ef hG hd hu R HR1
                      have e10 : E (.tmp 10) = .pointer (some ⟨pa, 0, none⟩) := hu 10 (by kernel_rfl)
                      clear hd hu
                      go_simp
                      exact HR1.out _ _ (Below.refl _ _) rfl
                    case s6 =>
                      refine Grow.step_in (by rfl) (by rfl) ?_
                      intro E W ec eg ef hG hd hu R HR1
                      have e203 : E (.tmp 203) = .pointer (some ⟨pa, 1, none⟩) := hd 5 203 (by kernel_rfl)
                      clear hd hu
                      go_simp
                      exact HR1.out _ _ (Below.refl _ _) rfl
                    case s7 =>
                      refine Grow.step_in (by rfl) (by rfl) ?_
                      intro E W ec eg ef hG hd hu R HR1
                      have e204 : E (.tmp 204) = .pointer (some ⟨pa, 2, none⟩) := hd 6 204 (by kernel_rfl)
                      clear hd hu
                      have hcl := ((hG.cell (p := ⟨pa, 2, none⟩) (Nat.lt_of_lt_of_le HW2.out.2 HBX.out.size)).trans (HBX.out.cell (p := ⟨pa, 2, none⟩) HW2.out.2)).trans HW2.out.1
                      go_simp
                      exact HR1.out _ _ (Below.refl _ _) rfl
                    case s8 =>
                      refine Grow.step_in (by rfl) (by rfl) ?_
                      intro E W ec eg ef hG hd hu R HR1
                      have e202 : E (.tmp 202) = .int .i64 x.t := hd 4 202 (by kernel_rfl)
                      have e205 : E (.tmp 205) = .int .i64 a.t := hd 7 205 (by kernel_rfl)
                      clear hd hu
                      go_simp
                      exact HR1.out _ _ (Below.refl _ _) rfl
                  case gfin =>
                    intro W hG
                    refine Grow.fin_dst (by rfl) ?_
                    rintro _ rfl
                    refine Grow.fin_dst (by rfl) ?_
                    rintro _ rfl
                    refine Grow.fin_dst (by rfl) ?_
                    rintro _ rfl
                    refine Grow.fin_dst (by rfl) ?_
                    rintro _ rfl
                    refine Grow.fin_dst (by rfl) ?_
                    rintro _ rfl
                    refine Grow.fin_dst (by rfl) ?_
                    rintro _ rfl
                    refine Grow.fin_dst (by rfl) ?_
                    rintro _ rfl
                    refine Grow.fin_dst (by rfl) ?_
                    rintro _ rfl
                    refine Grow.fin_dst (by rfl) ?_
                    rintro _ rfl
                    simp only [Act.put, List.setIfInBounds_toArray, List.set_cons_zero, List.set_cons_succ]
                    refine Grow.fin_end ?_

                    have HBG := Lib.hid (Grow.below_of_drew hG)
                    clear hG
                    go_wp2_with fail
                    go_roundw
                    case rel => exact ⟨j + 1, by have := HX.out.2.2.2; omega, by rw [cntB_succ, if_neg (by rw [HX.out.2.2.1, decide_eq_false HXT.out]; decide), Nat.add_zero], by simp, HBX.out.trans (HBG.out.mono HBX.out.size)⟩
                    case measure => simp only [intOf]; have := HJ.out.1; omega
              · have hlt' : ¬ (j : Int) < (n2 : Int) := by omega
                obtain rfl : j = n2 := by have := H8.out.1.rs.len; omega
                have hl2 : l2.length = j := H8.out.1.rs.len
                have hcn : cntB l2 a.t j = NF := by rw [HF9.out.2.2.2, ← cntB_all, hl2]
                rw [hcn]
                have HFF := Lib.hid (HF9.out.1.below HBX.out)
                clear hcn hl2 hlt hj
                go_wp2_with fail
                go_roundw
                case rel => exact ⟨i + 1, l2, _, j, c2, R2, by have := HGO.out; omega, by have := HGO.out; omega, by simp, rfl, HFF.out⟩
                case measure => simp only [intOf]; have := HGO.out; omega
      · have h4' : ¬ (i : Int) < 60 := by omega
        clear h3 h4
        go_wp2_with fail
        go_ret
        exact ⟨rfl, HP.out.bel⟩
    · have h3' : ¬ (i : Int) < (ns : Int) := by omega
      clear h3
      go_wp2_with fail
      go_ret
      exact ⟨rfl, HP.out.bel⟩
theorem law_bplays {n : Int} (_ : (Lit.int .i64 n).wf = true) {w : World} {A : Option Addr} {ns cs : Nat} {L : List BAct} (hacts : BActs w A ns cs L) :
    Calls Try.prog 3 #[.int .i64 n, .slice A ns cs] w fun e w' => e = .returned (.bool true) ∧ Below w.heap.size w w' := bplays_run hacts n
end Go.Proofs.Ytogfblfekedefaa
