/-
  Files: Under.
  Files: are two trees the same?
  The cells of old rows stay, and the rows ahead of B whole: 'Cel B'. ('[]byte("a")' marks a row that it has made: its cells stay.)
  Files: the laws' example.
  How arguments are opened for my walks.
  What the listed variables hold (utf8's tables, which no walk reads): the list, the start of a witness.
-/
import Derived.Test.YtpcoiakdbfihlaaDoorPk10
import Derived.Test.YtpcoiakdbfihlaaDoorPk02
import Derived.Test.YtpcoiakdbfihlaaDoorPk05
import Derived.Test.YtpcoiakdbfihlaaDoorPk04
import Derived.Test.YtpcoiakdbfihlaaDoorRows
import Derived.Test.YtpcoiakdbfihlaaDoorPk01
import Derived.ProofKit
import Derived.OpenShut
import Derived.ShutString
import Derived.ChangeOld
import Derived.LaidMore
import Derived.Lay
import Derived.SevenTiedAt
import Derived.Stop.Joined
/-! Files: Under. -/
namespace Go.Proofs.YtpcoiakdbfihlaaDoor
open Go.RowKit Codec

def hdN (l : List UInt8) : List UInt8 := (spl l).headD []
def moreN (l : List UInt8) : Bool := decide (1 < (spl l).length)
def undStep (k : Nat) (acc : List (List UInt8) × List Bool) (x : Fi) : List (List UInt8) × List Bool :=
  if acc.1.getLast? = some (hdN (x.1.drop k)) then acc else (acc.1 ++ [hdN (x.1.drop k)], acc.2 ++ [moreN (x.1.drop k)])
def frontOf (dir : List UInt8) : List UInt8 := if dir = [] then [] else dir ++ [47]
/-- THE NAMES THAT STAND IN A DIRECTORY. -/
def undL (l : Tb) (dir : List UInt8) : List (List UInt8) × List Bool := (begL (frontOf dir) l).foldl (undStep (frontOf dir).length) ([], [])
theorem cutV_eq (l : List UInt8) : ∃ R, cutV l = .tuple #[.string (st (hdN l)), .string R, .bool (moreN l)] := by
  unfold cutV hdN moreN
  obtain ⟨x, r, e⟩ := List.exists_cons_of_ne_nil (spl_ne l)
  rw [e]
  cases r with
  | nil => exact ⟨_, rfl⟩
  | cons y r => exact ⟨st (l.drop (x.length + 1)), by simp⟩
theorem hdN_len (l : List UInt8) : (hdN l).length ≤ l.length := by
  unfold hdN
  obtain ⟨x, r, e⟩ := List.exists_cons_of_ne_nil (spl_ne l)
  rw [e]
  exact spl_len (by rw [e]; simp)
/-- While they are told. -/
def UdR (w : World) (m : Tb) (K : Nat) (v7 v8 i : Value) (wr : World) : Prop :=
  ∃ j : Nat, j ≤ m.length ∧ i = .int .i64 (j : Int) ∧ UnS w wr ((m.take j).foldl (undStep K) ([], [])).1 ((m.take j).foldl (undStep K) ([], [])).2 v7 v8 ∧ ((m.take j).foldl (undStep K) ([], [])).1.length ≤ j ∧ ((m.take j).foldl (undStep K) ([], [])).2.length = ((m.take j).foldl (undStep K) ([], [])).1.length
def UdPost (w : World) (r : List (List UInt8) × List Bool) (e : Ending) (w' : World) : Prop :=
  ∃ A1 c1 A2 c2, e = .returned (.tuple #[.slice A1 r.1.length c1, .slice A2 r.2.length c2]) ∧ Strs w' (w.heap.size ≤ ·) A1 r.1.length c1 r.1 ∧ Bls w' (w.heap.size ≤ ·) A2 r.2.length c2 r.2 ∧ Below w.heap.size w w' ∧ r.2.length = r.1.length ∧ r.1.length ≤ 1000000
theorem und_succ {m : Tb} {j : Nat} {x : Fi} (hx : m[j]? = some x) (K : Nat) : (m.take (j + 1)).foldl (undStep K) ([], []) = undStep K ((m.take j).foldl (undStep K) ([], [])) x := by
  rw [List.take_add_one, hx, List.foldl_append]
  rfl
set_option maxHeartbeats 16000000 in
set_option maxRecDepth 100000 in
/-- The loop. -/
theorem under_any {w : World} {S : Nat → Prop} {A : Option Addr} {n c : Nat} {l : Tb} (hl : Fls w S A n c l) (hn : n ≤ 1000000) (hr : Ris l) (hp : ∀ x ∈ l, x.1.length ≤ 255) (dir : List UInt8) (hd : dir.length ≤ 1000000) :
    Calls Tryd.prog 22 #[.slice A n c, .string (st dir)] w fun e w' => UdPost w (undL l dir) e w' := by
  have HD : Hid (frontOf dir = if dir = [] then [] else dir ++ [47]) := Lib.hid rfl
  have hbg := begin_any hl (by omega) hr (frontOf dir)
  have hbl : (begL (frontOf dir) l).length ≤ n := by
    have h1 := List.length_filter_le (fun x : Fi => (frontOf dir).isPrefixOf x.1) l
    rw [hl.len] at h1
    exact h1
  have hmem : ∀ x ∈ begL (frontOf dir) l, x.1.length ≤ 255 ∧ (frontOf dir).length ≤ x.1.length := fun x hx => by
    obtain ⟨h1, h2⟩ := List.mem_filter.1 hx
    exact ⟨hp x h1, (List.isPrefixOf_iff_prefix.1 h2).length_le⟩
  have HR : Hid (undL l dir = (begL (frontOf dir) l).foldl (undStep (frontOf dir).length) ([], [])) := Lib.hid rfl
  obtain ⟨F, hF⟩ : ∃ F, F = frontOf dir := ⟨_, rfl⟩
  obtain ⟨m, hm⟩ : ∃ m, m = begL (frontOf dir) l := ⟨_, rfl⟩
  rw [← hm] at hbg hbl hmem HR
  rw [← hF] at hbg hmem HR HD
  have hszF := st_size F
  obtain ⟨K, hK⟩ : ∃ K, K = F.length := ⟨_, rfl⟩
  rw [← hK] at hszF hmem HR
  have HM := Lib.hid (And.intro hbl (And.intro hmem hK))
  have HRES := Lib.hid HR.out
  have hzc := zero_fi
  clear hl hr hp hm hF hbl hmem hK HR
  have HGO : Hid (∀ (w1 : World) (A' : Option Addr) (c' : Nat), Fls w S A' m.length c' m → Below w.heap.size w w1 → UdR w m K (.slice none 0 0) (.slice none 0 0) (.int .i64 0) w1) := Lib.hid fun w1 A' c' _ hb1 => ⟨0, Nat.zero_le _, rfl, (UnS.nil w).later hb1, Nat.zero_le _, rfl⟩
  obtain ⟨N2, hN2⟩ : ∃ N2, N2 = m.length := ⟨_, rfl⟩
  rw [← hN2] at hbg
  have HN2 := Lib.hid hN2
  have hn2 : N2 ≤ 1000000 := by rw [hN2]; have := HM.out.1; omega
  clear hN2
  by_cases hd0 : dir = []
  · have e0 : (st dir).toList.isEmpty = true := by rw [st_list, hd0]; rfl
    have hF0 : F = [] := by rw [HD.out, if_pos hd0]
    have hFe : st F = ⟨#[]⟩ := by rw [hF0]; rfl
    have HFE := Lib.hid hFe
    clear hd0 hF0
    rw [hFe] at hbg
    clear hFe
    go_enter Tryd.func22, Tryd.ntmps22
    go_upto_region 4 with fail
    go_upto_region 6 with fail
    go_upto_region 7 with (go_at_call 47; refine hbg.mono ?_; clear hbg; rintro _ w1 ⟨A2, c2, rfl, hf2, hb1⟩)
    rw [← HFE.out]
    have HF := Lib.hid (And.intro hf2 hb1)
    have H0 := Lib.hid (HGO.out w1 A2 c2 (by rw [← HN2.out]; exact hf2) hb1)
    clear hf2 hb1 e0
    go_loopw [7, 8, 23] (fun v7 v8 i wr => UdR w m K v7 v8 i wr) (fun _ _ i _ => N2 - (intOf i).toNat)
    case atStart => exact H0.out
    case round =>
      obtain ⟨j, hj, rfl, hU, hUl, hUd⟩ := hrel
      clear H0
      by_cases hlt : j < N2
      · have hlt' : (j : Int) < (N2 : Int) := by omega
        obtain ⟨names, hnames⟩ : ∃ names, names = ((m.take j).foldl (undStep K) ([], [])).1 := ⟨_, rfl⟩
        obtain ⟨dirs, hdirs⟩ : ∃ dirs, dirs = ((m.take j).foldl (undStep K) ([], [])).2 := ⟨_, rfl⟩
        rw [← hnames, ← hdirs] at hU hUd
        rw [← hnames] at hUl
        have HACC : Hid ((m.take j).foldl (undStep K) ([], []) = (names, dirs)) := Lib.hid (by rw [hnames, hdirs])
        have hU0 := hU
        obtain ⟨A7, c7, rfl, hs7⟩ := hU.v7s
        obtain ⟨A8, c8, rfl, hs8⟩ := hU.v8s
        obtain ⟨q, off, x, Ai, ni, ci, rfl, _, hqlt, hx, hcs, hy⟩ := HF.out.1.at_ hlt
        obtain ⟨CV, hCV⟩ : ∃ CV, CV = fiV Ai ni ci x := ⟨_, rfl⟩
        rw [← hCV] at hcs
        have hcw : ∀ (i : Nat) (v : Value), CV[i]? = some v → wr.cell? ((⟨q, off + j * 2, none⟩ : Addr).add i) = some v := fun i v hv => by
          have h1 := hcs i v hv
          rw [add_plain] at h1 ⊢
          exact (hU.bel.cell (p := ⟨_, _, none⟩) hqlt).trans h1
        have hadd := IntWalk.i64_in ((j : Int) + 1) (by omega)
        have hxm := HM.out.2.1 x (List.mem_of_getElem? hx)
        have HCV := Lib.hid (And.intro hCV hcw)
        have HX := Lib.hid (And.intro hx (And.intro hUl (And.intro hlt hxm)))
        have HU := Lib.hid hU
        have HU3 := Lib.hid (And.intro hUd hs7)
        clear hCV hcw hcs hy hx hqlt hxm hU0 hU hUl hUd hs7 hs8 hnames hdirs
        go_upto_region 9 with (first
          | (refine wpList_load_at (by rfl) 50 (.tmp 25) (by rfl) ⟨q, off + j * 2, none⟩ (by rfl) CV _ HCV.out.2 Tryd.underlying50 (by rfl) (by rw [HCV.out.1]; exact fi_info) ?_)
          | (refine wpList_store_row (by rfl) 50 (.tmp 10) (.tmp 26) (by rfl) wr.heap.size CV (by rfl) (by rfl) 50 _ (heap_alloc_new wr _) (by rw [HCV.out.1]; exact fi_info) (by rw [HCV.out.1]; rfl) (by rw [HCV.out.1]; exact fiV_one _ _ _ _) ?_))
        have hal : Below wr.heap.size wr ((wr.alloc (.cells #[.string ⟨#[]⟩, .slice none 0 0] 50)).setRow wr.heap.size CV) := below_setRow ((Below.refl _ _).alloc (Nat.le_refl _) _) (Nat.le_refl _) _
        have hpa : ((wr.alloc (.cells #[.string ⟨#[]⟩, .slice none 0 0] 50)).setRow wr.heap.size CV).heap[wr.heap.size]? = some (.cells CV 50 (0, 0)) := setRow_at (heap_alloc_new wr _)
        obtain ⟨X, hX⟩ : ∃ X, X = x.1 := ⟨_, rfl⟩
        have hpx : ((wr.alloc (.cells #[.string ⟨#[]⟩, .slice none 0 0] 50)).setRow wr.heap.size CV).cell? ⟨wr.heap.size, 0, none⟩ = some (.string (st X)) := by rw [cell_of_cells hpa, HCV.out.1, hX]; rfl
        have H5 := Lib.hid (And.intro hal hX)
        clear hal hpa hzc hX
        generalize (wr.alloc (.cells #[.string ⟨#[]⟩, .slice none 0 0] 50)).setRow wr.heap.size CV = w5 at *
        have hxl : X.length ≤ 255 ∧ K ≤ X.length := by rw [H5.out.2]; exact HX.out.2.2.2
        have hfr := fun W => st_from (P := Tryd.prog) 9 Tryd.underlying9 X W K (K : Int) rfl hxl.2
        have hcut := strcut_any (X.drop K) (by rw [List.length_drop]; omega) w5
        obtain ⟨R, hR⟩ := cutV_eq (X.drop K)
        rw [hR] at hcut
        obtain ⟨NM, hNM⟩ : ∃ NM, NM = hdN (X.drop K) := ⟨_, rfl⟩
        obtain ⟨MO, hMO⟩ : ∃ MO, MO = moreN (X.drop K) := ⟨_, rfl⟩
        rw [← hNM, ← hMO] at hcut
        have HNM := Lib.hid (And.intro hNM hMO)
        have HNL : Hid (NM.length ≤ 255) := Lib.hid (by rw [hNM]; have h1 := hdN_len (X.drop K); rw [List.length_drop] at h1; omega)
        clear hR hNM hMO hxl
        go_upto_region 10 with (go_at_call 48; refine hcut.mono ?_; clear hcut; rintro _ w6 ⟨rfl, hb6⟩)
        have HB6 : Hid (Below wr.heap.size wr w6) := Lib.hid (H5.out.1.trans (hb6.mono H5.out.1.size))
        have HST : Hid ((m.take (j + 1)).foldl (undStep K) ([], []) = undStep K (names, dirs) x) := Lib.hid (by rw [und_succ HX.out.1, HACC.out])
        clear hb6 hfr hpx
        by_cases h0 : names.length = 0
        · have hle : ¬ ((names.length : Nat) : Int) > 0 := by omega
          have HNE : Hid (names.getLast? ≠ some NM) := Lib.hid (by rw [List.eq_nil_of_length_eq_zero h0]; simp)
          clear h0
          have hscl := sclone_any (st NM) w6 (by rw [st_size]; have := HNL.out; omega)
          go_upto_region 12 with fail
          have hU6 := HU.out.later HB6.out
          go_wp2_with (first
            | (go_at_call 49; refine hscl.mono ?_; clear hscl; rintro _ w7 ⟨rfl, hb7⟩; obtain ⟨A12, c12, w12, hap, hU12⟩ := (hU6.later hb7).name NM (by have h1 := HX.out.2.1; omega); obtain ⟨A13, c13, w13, hap2, hU13⟩ := hU12.dir MO (by have h1 := HU3.out.1; have h2 := HX.out.2.1; omega))
            | (at_builtin; refine wpList_app (by rfl) (.tmp 50) (.tmp 53) 44 (by rfl) (by rfl) (by rfl) hap ?_)
            | (at_builtin; refine wpList_app (by rfl) (.tmp 55) (.tmp 57) 45 (by rfl) (by rfl) (by rfl) hap2 ?_))
          go_roundw
          case rel =>
            have hst : undStep K (names, dirs) x = (names ++ [NM], dirs ++ [MO]) := by
              unfold undStep
              rw [← H5.out.2, ← HNM.out.1, ← HNM.out.2, if_neg HNE.out]
            exact ⟨j + 1, by have h1 := HX.out.2.2.1; have h2 := HN2.out; omega, by simp, by rw [HST.out, hst]; exact hU13, by rw [HST.out, hst]; have := HX.out.2.1; simp; omega, by rw [HST.out, hst]; have := HU3.out.1; simp; omega⟩
          case measure => have := HX.out.2.2.1; simp only [intOf]; omega
        · obtain ⟨k, hk⟩ : ∃ k, names.length = k + 1 := ⟨names.length - 1, by omega⟩
          have hle : ((names.length : Nat) : Int) > 0 := by omega
          obtain ⟨Y, hY⟩ : ∃ Y, names[k]? = some Y := ⟨_, List.getElem?_eq_getElem (by omega)⟩
          obtain ⟨b7, o7, rfl, _, _, hc7⟩ := (HU3.out.2.below HB6.out).row (by omega)
          have hcl7 : w6.cell? ⟨b7, o7 + k, none⟩ = some (.string (st Y)) := by
            have := hc7 k (by omega)
            rw [hY] at this
            exact this
          have hlast : names.getLast? = some Y := by rw [List.getLast?_eq_getElem?, hk]; exact hY
          have hsub : IntKind.i64.wrap (((names.length : Nat) : Int) - 1) = (k : Int) := by rw [IntWalk.i64_in _ (by have h1 := HX.out.2.1; have h2 := HX.out.2.2.1; omega)]; omega
          have hkn : (k : Int) < ((names.length : Nat) : Int) := by omega
          have hbq := st_beq Y NM
          have HLA := Lib.hid hlast
          clear h0 hk hY hc7 hlast
          by_cases he : Y = NM
          · rw [decide_eq_true he] at hbq
            have HE : Hid (undStep K (names, dirs) x = (names, dirs)) := Lib.hid (by
              unfold undStep
              rw [if_pos (by rw [← H5.out.2, ← HNM.out.1, ← he]; exact HLA.out)])
            clear he
            go_wp2_with fail
            go_roundw
            case rel => exact ⟨j + 1, by have h1 := HX.out.2.2.1; have h2 := HN2.out; omega, by simp, by rw [HST.out, HE.out]; exact HU.out.later HB6.out, by rw [HST.out, HE.out]; have := HX.out.2.1; show names.length ≤ j + 1; omega, by rw [HST.out, HE.out]; exact HU3.out.1⟩
            case measure => have := HX.out.2.2.1; simp only [intOf]; omega
          · rw [decide_eq_false he] at hbq
            have HNE : Hid (names.getLast? ≠ some NM) := Lib.hid (by rw [HLA.out]; simpa using he)
            clear he
            have hscl := sclone_any (st NM) w6 (by rw [st_size]; have := HNL.out; omega)
            go_upto_region 12 with fail
            have hU6 := HU.out.later HB6.out
            go_wp2_with (first
              | (go_at_call 49; refine hscl.mono ?_; clear hscl; rintro _ w7 ⟨rfl, hb7⟩; obtain ⟨A12, c12, w12, hap, hU12⟩ := (hU6.later hb7).name NM (by have h1 := HX.out.2.1; omega); obtain ⟨A13, c13, w13, hap2, hU13⟩ := hU12.dir MO (by have h1 := HU3.out.1; have h2 := HX.out.2.1; omega))
              | (at_builtin; refine wpList_app (by rfl) (.tmp 50) (.tmp 53) 44 (by rfl) (by rfl) (by rfl) hap ?_)
              | (at_builtin; refine wpList_app (by rfl) (.tmp 55) (.tmp 57) 45 (by rfl) (by rfl) (by rfl) hap2 ?_))
            go_roundw
            case rel =>
              have hst : undStep K (names, dirs) x = (names ++ [NM], dirs ++ [MO]) := by
                unfold undStep
                rw [← H5.out.2, ← HNM.out.1, ← HNM.out.2, if_neg HNE.out]
              exact ⟨j + 1, by have h1 := HX.out.2.2.1; have h2 := HN2.out; omega, by simp, by rw [HST.out, hst]; exact hU13, by rw [HST.out, hst]; have := HX.out.2.1; simp; omega, by rw [HST.out, hst]; have := HU3.out.1; simp; omega⟩
            case measure => have := HX.out.2.2.1; simp only [intOf]; omega
      · have hjn : j = N2 := by have := HN2.out; omega
        have hfull : m.take j = m := List.take_of_length_le (by rw [← HN2.out]; omega)
        rw [hfull, ← HRES.out] at hU hUl hUd
        obtain ⟨A7, c7, rfl, hs7⟩ := hU.v7s
        obtain ⟨A8, c8, rfl, hs8⟩ := hU.v8s
        have HEND := Lib.hid (And.intro hs7 (And.intro hs8 (And.intro hU.bel (And.intro hUd hUl))))
        have hlt' : ¬ (j : Int) < (N2 : Int) := by omega
        clear hlt hjn hfull hs7 hs8 hU hUl hUd
        go_wp2_with fail
        go_ret2
        exact ⟨A7, c7, A8, c8, rfl, HEND.out.1, HEND.out.2.1, HEND.out.2.2.1, HEND.out.2.2.2.1, by have h1 := HEND.out.2.2.2.2; have h2 := HN2.out; omega⟩
  · have e0 : (st dir).toList.isEmpty = false := by rw [st_list]; simpa using hd0
    have hF0 : F = dir ++ [47] := by rw [HD.out, if_neg hd0]
    have happ : st dir ++ ⟨#[47]⟩ = st F := by rw [hF0, ← st_app]; rfl
    have hsd := st_size dir
    have hsa : dir.length + 1 ≤ 2000000 := by omega
    clear hd0 hF0
    go_enter Tryd.func22, Tryd.ntmps22
    go_upto_region 4 with fail
    go_upto_region 6 with fail
    go_upto_region 7 with (go_at_call 47; refine hbg.mono ?_; clear hbg; rintro _ w1 ⟨A2, c2, rfl, hf2, hb1⟩)
    have HF := Lib.hid (And.intro hf2 hb1)
    have H0 := Lib.hid (HGO.out w1 A2 c2 (by rw [← HN2.out]; exact hf2) hb1)
    clear hf2 hb1 e0 happ hsd hsa
    go_loopw [7, 8, 23] (fun v7 v8 i wr => UdR w m K v7 v8 i wr) (fun _ _ i _ => N2 - (intOf i).toNat)
    case atStart => exact H0.out
    case round =>
      obtain ⟨j, hj, rfl, hU, hUl, hUd⟩ := hrel
      clear H0
      by_cases hlt : j < N2
      · have hlt' : (j : Int) < (N2 : Int) := by omega
        obtain ⟨names, hnames⟩ : ∃ names, names = ((m.take j).foldl (undStep K) ([], [])).1 := ⟨_, rfl⟩
        obtain ⟨dirs, hdirs⟩ : ∃ dirs, dirs = ((m.take j).foldl (undStep K) ([], [])).2 := ⟨_, rfl⟩
        rw [← hnames, ← hdirs] at hU hUd
        rw [← hnames] at hUl
        have HACC : Hid ((m.take j).foldl (undStep K) ([], []) = (names, dirs)) := Lib.hid (by rw [hnames, hdirs])
        have hU0 := hU
        obtain ⟨A7, c7, rfl, hs7⟩ := hU.v7s
        obtain ⟨A8, c8, rfl, hs8⟩ := hU.v8s
        obtain ⟨q, off, x, Ai, ni, ci, rfl, _, hqlt, hx, hcs, hy⟩ := HF.out.1.at_ hlt
        obtain ⟨CV, hCV⟩ : ∃ CV, CV = fiV Ai ni ci x := ⟨_, rfl⟩
        rw [← hCV] at hcs
        have hcw : ∀ (i : Nat) (v : Value), CV[i]? = some v → wr.cell? ((⟨q, off + j * 2, none⟩ : Addr).add i) = some v := fun i v hv => by
          have h1 := hcs i v hv
          rw [add_plain] at h1 ⊢
          exact (hU.bel.cell (p := ⟨_, _, none⟩) hqlt).trans h1
        have hadd := IntWalk.i64_in ((j : Int) + 1) (by omega)
        have hxm := HM.out.2.1 x (List.mem_of_getElem? hx)
        have HCV := Lib.hid (And.intro hCV hcw)
        have HX := Lib.hid (And.intro hx (And.intro hUl (And.intro hlt hxm)))
        have HU := Lib.hid hU
        have HU3 := Lib.hid (And.intro hUd hs7)
        clear hCV hcw hcs hy hx hqlt hxm hU0 hU hUl hUd hs7 hs8 hnames hdirs
        go_upto_region 9 with (first
          | (refine wpList_load_at (by rfl) 50 (.tmp 25) (by rfl) ⟨q, off + j * 2, none⟩ (by rfl) CV _ HCV.out.2 Tryd.underlying50 (by rfl) (by rw [HCV.out.1]; exact fi_info) ?_)
          | (refine wpList_store_row (by rfl) 50 (.tmp 10) (.tmp 26) (by rfl) wr.heap.size CV (by rfl) (by rfl) 50 _ (heap_alloc_new wr _) (by rw [HCV.out.1]; exact fi_info) (by rw [HCV.out.1]; rfl) (by rw [HCV.out.1]; exact fiV_one _ _ _ _) ?_))
        have hal : Below wr.heap.size wr ((wr.alloc (.cells #[.string ⟨#[]⟩, .slice none 0 0] 50)).setRow wr.heap.size CV) := below_setRow ((Below.refl _ _).alloc (Nat.le_refl _) _) (Nat.le_refl _) _
        have hpa : ((wr.alloc (.cells #[.string ⟨#[]⟩, .slice none 0 0] 50)).setRow wr.heap.size CV).heap[wr.heap.size]? = some (.cells CV 50 (0, 0)) := setRow_at (heap_alloc_new wr _)
        obtain ⟨X, hX⟩ : ∃ X, X = x.1 := ⟨_, rfl⟩
        have hpx : ((wr.alloc (.cells #[.string ⟨#[]⟩, .slice none 0 0] 50)).setRow wr.heap.size CV).cell? ⟨wr.heap.size, 0, none⟩ = some (.string (st X)) := by rw [cell_of_cells hpa, HCV.out.1, hX]; rfl
        have H5 := Lib.hid (And.intro hal hX)
        clear hal hpa hzc hX
        generalize (wr.alloc (.cells #[.string ⟨#[]⟩, .slice none 0 0] 50)).setRow wr.heap.size CV = w5 at *
        have hxl : X.length ≤ 255 ∧ K ≤ X.length := by rw [H5.out.2]; exact HX.out.2.2.2
        have hfr := fun W => st_from (P := Tryd.prog) 9 Tryd.underlying9 X W K (K : Int) rfl hxl.2
        have hcut := strcut_any (X.drop K) (by rw [List.length_drop]; omega) w5
        obtain ⟨R, hR⟩ := cutV_eq (X.drop K)
        rw [hR] at hcut
        obtain ⟨NM, hNM⟩ : ∃ NM, NM = hdN (X.drop K) := ⟨_, rfl⟩
        obtain ⟨MO, hMO⟩ : ∃ MO, MO = moreN (X.drop K) := ⟨_, rfl⟩
        rw [← hNM, ← hMO] at hcut
        have HNM := Lib.hid (And.intro hNM hMO)
        have HNL : Hid (NM.length ≤ 255) := Lib.hid (by rw [hNM]; have h1 := hdN_len (X.drop K); rw [List.length_drop] at h1; omega)
        clear hR hNM hMO hxl
        go_upto_region 10 with (go_at_call 48; refine hcut.mono ?_; clear hcut; rintro _ w6 ⟨rfl, hb6⟩)
        have HB6 : Hid (Below wr.heap.size wr w6) := Lib.hid (H5.out.1.trans (hb6.mono H5.out.1.size))
        have HST : Hid ((m.take (j + 1)).foldl (undStep K) ([], []) = undStep K (names, dirs) x) := Lib.hid (by rw [und_succ HX.out.1, HACC.out])
        clear hb6 hfr hpx
        by_cases h0 : names.length = 0
        · have hle : ¬ ((names.length : Nat) : Int) > 0 := by omega
          have HNE : Hid (names.getLast? ≠ some NM) := Lib.hid (by rw [List.eq_nil_of_length_eq_zero h0]; simp)
          clear h0
          have hscl := sclone_any (st NM) w6 (by rw [st_size]; have := HNL.out; omega)
          go_upto_region 12 with fail
          have hU6 := HU.out.later HB6.out
          go_wp2_with (first
            | (go_at_call 49; refine hscl.mono ?_; clear hscl; rintro _ w7 ⟨rfl, hb7⟩; obtain ⟨A12, c12, w12, hap, hU12⟩ := (hU6.later hb7).name NM (by have h1 := HX.out.2.1; omega); obtain ⟨A13, c13, w13, hap2, hU13⟩ := hU12.dir MO (by have h1 := HU3.out.1; have h2 := HX.out.2.1; omega))
            | (at_builtin; refine wpList_app (by rfl) (.tmp 50) (.tmp 53) 44 (by rfl) (by rfl) (by rfl) hap ?_)
            | (at_builtin; refine wpList_app (by rfl) (.tmp 55) (.tmp 57) 45 (by rfl) (by rfl) (by rfl) hap2 ?_))
          go_roundw
          case rel =>
            have hst : undStep K (names, dirs) x = (names ++ [NM], dirs ++ [MO]) := by
              unfold undStep
              rw [← H5.out.2, ← HNM.out.1, ← HNM.out.2, if_neg HNE.out]
            exact ⟨j + 1, by have h1 := HX.out.2.2.1; have h2 := HN2.out; omega, by simp, by rw [HST.out, hst]; exact hU13, by rw [HST.out, hst]; have := HX.out.2.1; simp; omega, by rw [HST.out, hst]; have := HU3.out.1; simp; omega⟩
          case measure => have := HX.out.2.2.1; simp only [intOf]; omega
        · obtain ⟨k, hk⟩ : ∃ k, names.length = k + 1 := ⟨names.length - 1, by omega⟩
          have hle : ((names.length : Nat) : Int) > 0 := by omega
          obtain ⟨Y, hY⟩ : ∃ Y, names[k]? = some Y := ⟨_, List.getElem?_eq_getElem (by omega)⟩
          obtain ⟨b7, o7, rfl, _, _, hc7⟩ := (HU3.out.2.below HB6.out).row (by omega)
          have hcl7 : w6.cell? ⟨b7, o7 + k, none⟩ = some (.string (st Y)) := by
            have := hc7 k (by omega)
            rw [hY] at this
            exact this
          have hlast : names.getLast? = some Y := by rw [List.getLast?_eq_getElem?, hk]; exact hY
          have hsub : IntKind.i64.wrap (((names.length : Nat) : Int) - 1) = (k : Int) := by rw [IntWalk.i64_in _ (by have h1 := HX.out.2.1; have h2 := HX.out.2.2.1; omega)]; omega
          have hkn : (k : Int) < ((names.length : Nat) : Int) := by omega
          have hbq := st_beq Y NM
          have HLA := Lib.hid hlast
          clear h0 hk hY hc7 hlast
          by_cases he : Y = NM
          · rw [decide_eq_true he] at hbq
            have HE : Hid (undStep K (names, dirs) x = (names, dirs)) := Lib.hid (by
              unfold undStep
              rw [if_pos (by rw [← H5.out.2, ← HNM.out.1, ← he]; exact HLA.out)])
            clear he
            go_wp2_with fail
            go_roundw
            case rel => exact ⟨j + 1, by have h1 := HX.out.2.2.1; have h2 := HN2.out; omega, by simp, by rw [HST.out, HE.out]; exact HU.out.later HB6.out, by rw [HST.out, HE.out]; have := HX.out.2.1; show names.length ≤ j + 1; omega, by rw [HST.out, HE.out]; exact HU3.out.1⟩
            case measure => have := HX.out.2.2.1; simp only [intOf]; omega
          · rw [decide_eq_false he] at hbq
            have HNE : Hid (names.getLast? ≠ some NM) := Lib.hid (by rw [HLA.out]; simpa using he)
            clear he
            have hscl := sclone_any (st NM) w6 (by rw [st_size]; have := HNL.out; omega)
            go_upto_region 12 with fail
            have hU6 := HU.out.later HB6.out
            go_wp2_with (first
              | (go_at_call 49; refine hscl.mono ?_; clear hscl; rintro _ w7 ⟨rfl, hb7⟩; obtain ⟨A12, c12, w12, hap, hU12⟩ := (hU6.later hb7).name NM (by have h1 := HX.out.2.1; omega); obtain ⟨A13, c13, w13, hap2, hU13⟩ := hU12.dir MO (by have h1 := HU3.out.1; have h2 := HX.out.2.1; omega))
              | (at_builtin; refine wpList_app (by rfl) (.tmp 50) (.tmp 53) 44 (by rfl) (by rfl) (by rfl) hap ?_)
              | (at_builtin; refine wpList_app (by rfl) (.tmp 55) (.tmp 57) 45 (by rfl) (by rfl) (by rfl) hap2 ?_))
            go_roundw
            case rel =>
              have hst : undStep K (names, dirs) x = (names ++ [NM], dirs ++ [MO]) := by
                unfold undStep
                rw [← H5.out.2, ← HNM.out.1, ← HNM.out.2, if_neg HNE.out]
              exact ⟨j + 1, by have h1 := HX.out.2.2.1; have h2 := HN2.out; omega, by simp, by rw [HST.out, hst]; exact hU13, by rw [HST.out, hst]; have := HX.out.2.1; simp; omega, by rw [HST.out, hst]; have := HU3.out.1; simp; omega⟩
            case measure => have := HX.out.2.2.1; simp only [intOf]; omega
      · have hjn : j = N2 := by have := HN2.out; omega
        have hfull : m.take j = m := List.take_of_length_le (by rw [← HN2.out]; omega)
        rw [hfull, ← HRES.out] at hU hUl hUd
        obtain ⟨A7, c7, rfl, hs7⟩ := hU.v7s
        obtain ⟨A8, c8, rfl, hs8⟩ := hU.v8s
        have HEND := Lib.hid (And.intro hs7 (And.intro hs8 (And.intro hU.bel (And.intro hUd hUl))))
        have hlt' : ¬ (j : Int) < (N2 : Int) := by omega
        clear hlt hjn hfull hs7 hs8 hU hUl hUd
        go_wp2_with fail
        go_ret2
        exact ⟨A7, c7, A8, c8, rfl, HEND.out.1, HEND.out.2.1, HEND.out.2.2.1, HEND.out.2.2.2.1, by have h1 := HEND.out.2.2.2.2; have h2 := HN2.out; omega⟩
end Go.Proofs.YtpcoiakdbfihlaaDoor

/-! Files: are two trees the same? -/
namespace Go.Proofs.YtpcoiakdbfihlaaDoor
open Go.RowKit Codec

set_option maxHeartbeats 4000000 in
set_option maxRecDepth 100000 in
theorem same1_any {w : World} {S T : Nat → Prop} {x y : Fi} {A B : Option Addr} {c d : Nat} (h1 : Byt w S A x.2.length c x.2) (h2 : Byt w T B y.2.length d y.2) :
    Calls Tryd.prog 42 #[.agg (fiV A x.2.length c x), .agg (fiV B y.2.length d y)] w fun e w' => e = .returned (.bool (decide (x = y))) ∧ Below w.heap.size w w' := by
  obtain ⟨XA, hXA⟩ : ∃ XA, XA = fiV A x.2.length c x := ⟨_, rfl⟩
  obtain ⟨YA, hYA⟩ : ∃ YA, YA = fiV B y.2.length d y := ⟨_, rfl⟩
  obtain ⟨P, hP⟩ : ∃ P, P = x.1 := ⟨_, rfl⟩
  obtain ⟨Q, hQ⟩ : ∃ Q, Q = y.1 := ⟨_, rfl⟩
  obtain ⟨NX, hNX⟩ : ∃ NX, NX = x.2.length := ⟨_, rfl⟩
  obtain ⟨NY, hNY⟩ : ∃ NY, NY = y.2.length := ⟨_, rfl⟩
  rw [← hNX] at h1 hXA
  rw [← hNY] at h2 hYA
  rw [← hNX, ← hNY]
  rw [← hXA, ← hYA]
  have hb : Below w.heap.size w ((w.alloc (.cells XA 50)).alloc (.cells YA 50)) := ((Below.refl _ w).alloc (Nat.le_refl _) _).alloc (by simp) _
  have hx0 : ((w.alloc (.cells XA 50)).alloc (.cells YA 50)).heap[w.heap.size]? = some (.cells XA 50 (0, 0)) := (Below.heap_alloc _ _ _ (by simp)).trans (heap_alloc_new w _)
  have hy0 : ((w.alloc (.cells XA 50)).alloc (.cells YA 50)).heap[w.heap.size + 1]? = some (.cells YA 50 (0, 0)) := by
    have := heap_alloc_new (w.alloc (.cells XA 50)) (.cells YA 50)
    simpa using this
  have a0 : ((w.alloc (.cells XA 50)).alloc (.cells YA 50)).cell? ⟨w.heap.size, 0, none⟩ = some (.string (st P)) := by rw [cell_of_cells hx0, hXA, hP]; rfl
  have a1 : ((w.alloc (.cells XA 50)).alloc (.cells YA 50)).cell? ⟨w.heap.size, 1, none⟩ = some (.slice A NX c) := by rw [cell_of_cells hx0, hXA]; rfl
  have b0 : ((w.alloc (.cells XA 50)).alloc (.cells YA 50)).cell? ⟨w.heap.size + 1, 0, none⟩ = some (.string (st Q)) := by rw [cell_of_cells hy0, hYA, hQ]; rfl
  have b1 : ((w.alloc (.cells XA 50)).alloc (.cells YA 50)).cell? ⟨w.heap.size + 1, 1, none⟩ = some (.slice B NY d) := by rw [cell_of_cells hy0, hYA]; rfl
  have eq := bequal_any (h1.below hb) (h2.below hb)
  have HB := Lib.hid hb
  have hpq := st_beq P Q
  have HP := Lib.hid (And.intro hP hQ)
  clear hXA hYA hP hQ hNX hNY h1 h2 hb hx0 hy0
  by_cases h : P = Q
  · rw [decide_eq_true h] at hpq
    have HD : Hid (decide (x = y) = (x.2 == y.2)) := Lib.hid (by
      have e1 : x.1 = y.1 := by rw [← HP.out.1, ← HP.out.2]; exact h
      by_cases e : x.2 = y.2
      · rw [decide_eq_true (Prod.ext e1 e), beq_iff_eq.2 e]
      · rw [decide_eq_false (fun h => e (by rw [h])), beq_eq_false_iff_ne.2 e])
    obtain ⟨Z, hZ⟩ : ∃ Z, Z = (x.2 == y.2) := ⟨_, rfl⟩
    rw [← hZ] at eq HD
    clear h hZ
    go_enter Tryd.func42, Tryd.ntmps42
    go_wp2_with (go_at_call 43; refine eq.mono ?_; clear eq; rintro _ _ ⟨rfl, rfl⟩)
    go_ret
    exact ⟨by rw [HD.out]; rfl, HB.out⟩
  · rw [decide_eq_false h] at hpq
    have HD : Hid (decide (x = y) = false) := Lib.hid (decide_eq_false fun e => h (by rw [HP.out.1, HP.out.2, e]))
    clear h eq
    go_enter Tryd.func42, Tryd.ntmps42
    go_wp2_with fail
    go_ret
    exact ⟨by rw [HD.out]; rfl, HB.out⟩
/-- While they are held against each other. -/
def SmR (w : World) (l m : Tb) (i : Value) (wr : World) : Prop :=
  ∃ j : Nat, j ≤ l.length ∧ i = .int .i64 (j : Int) ∧ l.take j = m.take j ∧ Below w.heap.size w wr
set_option maxHeartbeats 8000000 in
set_option maxRecDepth 100000 in
theorem eqfunc_any {w : World} {S T : Nat → Prop} {A B : Option Addr} {n c k d : Nat} {l m : Tb} (hl : Fls w S A n c l) (hm : Fls w T B k d m) (hn : n ≤ 100000000) :
    Calls Tryd.prog 41 #[.slice A n c, .slice B k d, .func (.func 42) #[] #[]] w fun e w' => e = .returned (.bool (decide (l = m))) ∧ Below w.heap.size w w' := by
  by_cases hnk : n = k
  · subst hnk
    have HL := Lib.hid (And.intro hl (And.intro hm (And.intro hl.len hm.len)))
    have hzc := zero_fi
    have H0 : Hid (SmR w l m (.int .i64 0) w) := Lib.hid ⟨0, Nat.zero_le _, rfl, by simp, Below.refl _ _⟩
    clear hl hm
    go_enter Tryd.func41, Tryd.ntmps41
    go_wp2_with fail
    go_loopw [17] (fun i wr => SmR w l m i wr) (fun i _ => n - (intOf i).toNat)
    case atStart => exact H0.out
    case round =>
      obtain ⟨j, hj, rfl, htk, hb⟩ := hrel
      clear H0
      have HK := Lib.hid (And.intro htk hb)
      clear htk hb
      by_cases hlt : j < n
      · have hlt' : (j : Int) < (n : Int) := by omega
        obtain ⟨q, off, x, Ai, ni, ci, rfl, _, hqlt, hx, hcs, hy⟩ := HL.out.1.at_ hlt
        obtain ⟨q2, off2, y, Bi, mi, di, rfl, _, hqlt2, hx2, hcs2, hy2⟩ := HL.out.2.1.at_ hlt
        obtain rfl : ni = x.2.length := hy.len.symm
        obtain rfl : mi = y.2.length := hy2.len.symm
        obtain ⟨CV, hCV⟩ : ∃ CV, CV = fiV Ai x.2.length ci x := ⟨_, rfl⟩
        obtain ⟨CW, hCW⟩ : ∃ CW, CW = fiV Bi y.2.length di y := ⟨_, rfl⟩
        rw [← hCV] at hcs
        rw [← hCW] at hcs2
        have hcw : ∀ W, Below w.heap.size w W → ∀ (i : Nat) (v : Value), CV[i]? = some v → W.cell? ((⟨q, off + j * 2, none⟩ : Addr).add i) = some v := fun W hW i v hv => by
          have h1 := hcs i v hv
          rw [add_plain] at h1 ⊢
          exact (hW.cell (p := ⟨_, _, none⟩) hqlt).trans h1
        have hcw2 : ∀ W, Below w.heap.size w W → ∀ (i : Nat) (v : Value), CW[i]? = some v → W.cell? ((⟨q2, off2 + j * 2, none⟩ : Addr).add i) = some v := fun W hW i v hv => by
          have h1 := hcs2 i v hv
          rw [add_plain] at h1 ⊢
          exact (hW.cell (p := ⟨_, _, none⟩) hqlt2).trans h1
        have hadd := IntWalk.i64_in ((j : Int) + 1) (by omega)
        have HCV := Lib.hid (And.intro hCV (And.intro hCW (And.intro hcw hcw2)))
        have HX := Lib.hid (And.intro hx (And.intro hx2 (And.intro hlt (And.intro hy hy2))))
        clear hCV hCW hcw hcw2 hcs hcs2 hy hy2 hx hx2 hqlt hqlt2 hlt
        go_upto_region 6 with (first
          | (refine wpList_load_at (by rfl) 50 (.tmp 20) (by rfl) ⟨q, off + j * 2, none⟩ (by rfl) CV _ (HCV.out.2.2.1 _ HK.out.2) Tryd.underlying50 (by rfl) (by rw [HCV.out.1]; exact fi_info) ?_)
          | (refine wpList_store_row (by rfl) 50 (.tmp 8) (.tmp 21) (by rfl) wr.heap.size CV (by rfl) (by rfl) 50 _ (heap_alloc_new wr _) (by rw [HCV.out.1]; exact fi_info) (by rw [HCV.out.1]; rfl) (by rw [HCV.out.1]; exact fiV_one _ _ _ _) ?_))
        have hal : Below wr.heap.size wr ((wr.alloc (.cells #[.string ⟨#[]⟩, .slice none 0 0] 50)).setRow wr.heap.size CV) := below_setRow ((Below.refl _ _).alloc (Nat.le_refl _) _) (Nat.le_refl _) _
        have hpa : ((wr.alloc (.cells #[.string ⟨#[]⟩, .slice none 0 0] 50)).setRow wr.heap.size CV).heap[wr.heap.size]? = some (.cells CV 50 (0, 0)) := setRow_at (heap_alloc_new wr _)
        have H5 := Lib.hid (And.intro hal hpa)
        clear hal hpa
        generalize (wr.alloc (.cells #[.string ⟨#[]⟩, .slice none 0 0] 50)).setRow wr.heap.size CV = w5 at *
        go_upto_region 7 with (first
          | (refine wpList_load_at (by rfl) 50 (.tmp 24) (by rfl) ⟨q2, off2 + j * 2, none⟩ (by rfl) CW _ (HCV.out.2.2.2 _ (HK.out.2.trans (H5.out.1.mono HK.out.2.size))) Tryd.underlying50 (by rfl) (by rw [HCV.out.2.1]; exact fi_info) ?_)
          | (refine wpList_store_row (by rfl) 50 (.tmp 9) (.tmp 25) (by rfl) w5.heap.size CW (by rfl) (by rfl) 50 _ (heap_alloc_new w5 _) (by rw [HCV.out.2.1]; exact fi_info) (by rw [HCV.out.2.1]; rfl) (by rw [HCV.out.2.1]; exact fiV_one _ _ _ _) ?_))
        have hal : Below w5.heap.size w5 ((w5.alloc (.cells #[.string ⟨#[]⟩, .slice none 0 0] 50)).setRow w5.heap.size CW) := below_setRow ((Below.refl _ _).alloc (Nat.le_refl _) _) (Nat.le_refl _) _
        have hpa : ((w5.alloc (.cells #[.string ⟨#[]⟩, .slice none 0 0] 50)).setRow w5.heap.size CW).heap[w5.heap.size]? = some (.cells CW 50 (0, 0)) := setRow_at (heap_alloc_new w5 _)
        have H6 := Lib.hid (And.intro hal hpa)
        clear hal hpa hzc
        generalize (w5.alloc (.cells #[.string ⟨#[]⟩, .slice none 0 0] 50)).setRow w5.heap.size CW = w6 at *
        have H7 : Hid (w6.heap[wr.heap.size]? = some (.cells CV 50 (0, 0))) := Lib.hid ((H6.out.1.block _ (lt_of_cells H5.out.2)).trans H5.out.2)
        have hb6 : Below w.heap.size w w6 := HK.out.2.trans ((H5.out.1.trans (H6.out.1.mono H5.out.1.size)).mono HK.out.2.size)
        have hs := same1_any (x := x) (y := y) ((HX.out.2.2.2.1.mono (T := fun _ => True) fun _ _ _ => trivial).below hb6) ((HX.out.2.2.2.2.mono (T := fun _ => True) fun _ _ _ => trivial).below hb6)
        rw [← HCV.out.1, ← HCV.out.2.1] at hs
        have HB6 := Lib.hid hb6
        clear hb6
        by_cases he : x = y
        · rw [decide_eq_true he] at hs
          have HE := Lib.hid he
          clear he
          go_wp2_with (first
            | (refine wpList_load_row (by rfl) 50 (.tmp 8) (by rfl) wr.heap.size (by rfl) 50 CV (0, 0) _ H7.out Tryd.underlying50 (by rfl) (by rw [HCV.out.1]; exact fi_info) ?_)
            | (refine wpList_load_row (by rfl) 50 (.tmp 9) (by rfl) w5.heap.size (by rfl) 50 CW (0, 0) _ H6.out.2 Tryd.underlying50 (by rfl) (by rw [HCV.out.2.1]; exact fi_info) ?_)
            | (go_at_call 42; refine hs.mono ?_; clear hs; rintro _ w8 ⟨rfl, hb8⟩))
          go_roundw
          case rel => exact ⟨j + 1, by have h1 := HX.out.2.2.1; have h2 := HL.out.2.2.1; omega, by simp, by rw [List.take_add_one, List.take_add_one, HK.out.1, HX.out.1, HX.out.2.1, HE.out], HB6.out.trans (hb8.mono HB6.out.size)⟩
          case measure => have h1 := HX.out.2.2.1; simp only [intOf]; omega
        · rw [decide_eq_false he] at hs
          have HE : Hid (decide (l = m) = false) := Lib.hid (decide_eq_false fun e => he (by
            have h1 := HX.out.1
            rw [e, HX.out.2.1] at h1
            exact (Option.some.inj h1).symm))
          clear he
          go_wp2_with (first
            | (refine wpList_load_row (by rfl) 50 (.tmp 8) (by rfl) wr.heap.size (by rfl) 50 CV (0, 0) _ H7.out Tryd.underlying50 (by rfl) (by rw [HCV.out.1]; exact fi_info) ?_)
            | (refine wpList_load_row (by rfl) 50 (.tmp 9) (by rfl) w5.heap.size (by rfl) 50 CW (0, 0) _ H6.out.2 Tryd.underlying50 (by rfl) (by rw [HCV.out.2.1]; exact fi_info) ?_)
            | (go_at_call 42; refine hs.mono ?_; clear hs; rintro _ w8 ⟨rfl, hb8⟩))
          go_ret
          exact ⟨by rw [HE.out]; rfl, HB6.out.trans (hb8.mono HB6.out.size)⟩
      · have HE : Hid (decide (l = m) = true) := Lib.hid (decide_eq_true (by
          have h1 := HK.out.1
          rwa [List.take_of_length_le (by have := HL.out.2.2.1; omega), List.take_of_length_le (by have h2 := HL.out.2.2.2; have h3 := HL.out.2.2.1; omega)] at h1))
        have hlt' : ¬ (j : Int) < (n : Int) := by omega
        clear hlt
        go_wp2_with fail
        go_ret
        exact ⟨by rw [HE.out]; rfl, HK.out.2⟩
  · have hne : ((n : Int) != (k : Int)) = true := by simp; omega
    have HE : Hid (decide (l = m) = false) := Lib.hid (decide_eq_false fun e => hnk (by rw [← hl.len, ← hm.len, e]))
    clear hl hm hnk
    go_enter Tryd.func41, Tryd.ntmps41
    go_wp2_with fail
    go_ret
    exact ⟨by rw [HE.out]; rfl, Below.refl _ _⟩
set_option maxHeartbeats 2000000 in
set_option maxRecDepth 100000 in
theorem fsame_any {w : World} {S T : Nat → Prop} {A B : Option Addr} {n c k d : Nat} {l m : Tb} (hl : Fls w S A n c l) (hm : Fls w T B k d m) (hn : n ≤ 100000000) :
    Calls Tryd.prog 19 #[.slice A n c, .slice B k d] w fun e w' => e = .returned (.bool (decide (l = m))) ∧ Below w.heap.size w w' := by
  have hq := eqfunc_any hl hm hn
  clear hl hm
  go_enter Tryd.func19, Tryd.ntmps19
  go_wp2_with (go_at_call 41; refine hq.mono ?_; clear hq; rintro _ w1 ⟨rfl, hb1⟩)
  go_ret
  exact ⟨rfl, hb1⟩
end Go.Proofs.YtpcoiakdbfihlaaDoor

/-! The cells of old rows stay, and the rows ahead of B whole: 'Cel B'. ('[]byte("a")' marks a row that it has made: its cells stay.) -/
namespace Go.Proofs.YtpcoiakdbfihlaaDoor
open Go.RowKit

structure Cel (B : Nat) (W W' : World) : Prop where
  os : W'.os = W.os
  tape : W'.tape = W.tape
  output : W'.output = W.output
  size : W.heap.size ≤ W'.heap.size
  block : ∀ k, k < W.heap.size → k < B → W'.heap[k]? = W.heap[k]?
  cell : ∀ b o, b < W.heap.size → W'.cell? ⟨b, o, none⟩ = W.cell? ⟨b, o, none⟩
section
variable {B : Nat} {W W' V : World}
theorem Cel.refl (B : Nat) (W : World) : Cel B W W := ⟨rfl, rfl, rfl, Nat.le_refl _, fun _ _ _ => rfl, fun _ _ _ => rfl⟩
theorem Cel.trans (h : Cel B W W') (k : Cel B W' V) : Cel B W V :=
  ⟨k.os.trans h.os, k.tape.trans h.tape, k.output.trans h.output, Nat.le_trans h.size k.size, fun i hi hb => (k.block i (Nat.lt_of_lt_of_le hi h.size) hb).trans (h.block i hi hb), fun b o hb => (k.cell b o (Nat.lt_of_lt_of_le hb h.size)).trans (h.cell b o hb)⟩
theorem Cel.of_below (h : Below W.heap.size W W') : Cel B W W' := ⟨h.os, h.tape, h.output, h.size, fun k hk _ => h.block k hk, fun b _ hb => h.cell (p := ⟨b, _, none⟩) hb⟩
theorem Cel.below (h : Cel W.heap.size W W') : Below W.heap.size W W' := ⟨h.os, h.tape, h.output, h.size, fun k hk => h.block k hk hk⟩
theorem Cel.of_drew (h : Cel B W.drew W') : Cel B W W' := ⟨h.os, h.tape, h.output, h.size, h.block, h.cell⟩
theorem Byt.cel {S : Nat → Prop} {A : Option Addr} {n c : Nat} {l : List UInt8} (h : Byt W S A n c l) (k : Cel B W W') : Byt W' S A n c l := h.keep k.size k.cell
theorem Rws.cel {S : Nat → Prop} {A : Option Addr} {n c : Nat} {ls : List (List UInt8)} (h : Rws W S A n c ls) (k : Cel B W W') : Rws W' S A n c ls :=
  ⟨h.len, h.cap, h.max, fun h0 => by
    obtain ⟨b, off, hA, hS, hlt, hc⟩ := h.row h0
    refine ⟨b, off, hA, hS, Nat.lt_of_lt_of_le hlt k.size, fun i hi => ?_⟩
    obtain ⟨Ai, ni, ci, h1, h2⟩ := hc i hi
    exact ⟨Ai, ni, ci, (k.cell _ _ hlt).trans h1, h2.cel k⟩⟩

/-- '[]byte("..")' of a constant, whose row lies anywhere. -/
theorem conv_mark {P : Program} (W : World) (t e : TypeId) (ht : P.underlying t = some (.slice e)) (he : P.underlying e = some (.int .u8)) (g n c : Nat) (hB : B ≤ g) :
    ∃ W', (convert t t (.slice (some ⟨g, 0, none⟩) n c)).run P W = .ok (.slice (some ⟨g, 0, none⟩) n c) W' ∧ Cel B W W' := by
  have hf : ∀ k, Cel B W (W.freeze ⟨g, k, none⟩ 1) := fun k => by
    unfold World.freeze
    rw [if_neg (by decide)]
    refine ⟨rfl, rfl, rfl, by simp, fun i _ hi => ?_, fun b o _ => ?_⟩
    · simp only [Array.getElem?_modify]
      rw [if_neg (by omega)]
    · simp only [World.cell?, Array.getElem?_modify]
      by_cases hbg : g = b
      · rw [if_pos hbg]
        cases hh : W.heap[b]? with
        | none => rfl
        | some ob => cases ob <;> rfl
      · rw [if_neg hbg]
  cases hs : W.shape? g with
  | none =>
    refine ⟨W, ?_, Cel.refl _ _⟩
    simp [convert, run_underlying ht, run_underlying he, markStringish, hs]
  | some p =>
    obtain ⟨x, k⟩ := p
    refine ⟨_, ?_, hf k⟩
    simp [convert, run_underlying ht, run_underlying he, markStringish, hs]
end
end Go.Proofs.YtpcoiakdbfihlaaDoor

/-! Files: the laws' example. -/
namespace Go.Proofs.YtpcoiakdbfihlaaDoor
open Go.RowKit Codec

def fyL : Tb := [([97, 47, 98], [120]), ([97, 47, 99, 47, 100], []), ([101], [])]
theorem fy_chk : chkE fyL = 0 := by decide +kernel
theorem fy_und : undL fyL [] = ([[97], [101]], [true, false]) := by decide +kernel
theorem fy_no : pathOk [97, 47, 47, 98] = false := by decide +kernel
theorem fy_len : ∀ x ∈ fyL, x.1.length ≤ 255 := fun x hx => pathOk_len (rise_path (chk_ok fy_chk).1 x hx)
theorem fbyt_filled {w' : World} {q m n : Nat} {l : List UInt8} (h : w'.heap[q]? = some (.cells (u8s l).toArray 5 (0, 0))) (hl : l.length = n) (hn : n ≤ 1000000) (hm : m ≤ q) : Byt w' (m ≤ ·) (some ⟨q, 0, none⟩) n n l := by
  obtain ⟨h1, h2, h3, h4⟩ := byt_whole h (by omega)
  subst hl
  refine ⟨h1, h2, h3, fun h0 => ?_⟩
  obtain ⟨b, off, hA, _, hlt, hc⟩ := h4 h0
  injection hA with hA
  injection hA with e1 e2
  exact ⟨b, off, by rw [← e1, ← e2], by omega, hlt, hc⟩
/-- Files in a block of their own. -/
theorem fls_block {w : World} {q : Nat} {S : Nat → Prop} (L : List (Ro × Fi)) (h : w.heap[q]? = some (.cells (fiCells L).toArray 50 (0, 0))) (hq : S q) (hL : ∀ y ∈ L, Byt w S y.1.1 y.1.2.1 y.1.2.2 y.2.2) (hlen : L.length ≤ 1000) : Fls w S (some ⟨q, 0, none⟩) L.length L.length (L.map (·.2)) := by
  refine ⟨by simp, Nat.le_refl _, by unfold maxLen; omega, fun _ => ⟨q, 0, rfl, hq, lt_of_cells h, fun i x hx => ?_⟩⟩
  rw [List.getElem?_map] at hx
  cases hy : L[i]? with
  | none => rw [hy] at hx; cases hx
  | some y =>
    rw [hy] at hx
    have hyx : y.2 = x := by simpa using hx
    refine ⟨y.1.1, y.1.2.1, y.1.2.2, fun j u hu => ?_, by rw [← hyx]; exact hL y (List.mem_of_getElem? hy)⟩
    rw [← hyx] at hu
    have := fiCells_at L i y hy j u hu
    rw [cell_of_cells h]
    simpa using this
set_option maxHeartbeats 8000000 in
set_option maxRecDepth 100000 in
theorem fawake_true (w : World) : Calls Tryd.prog 9 #[] w fun e w' => e = .returned (.bool true) ∧ Below w.heap.size w w' := by
  obtain ⟨w3, hcv, hce⟩ := conv_mark (P := Tryd.prog) (B := w.heap.size) (w.alloc (.cells #[.int .u8 120] 5)) 27 5 Tryd.underlying27 Tryd.underlying5 w.heap.size 1 1 (Nat.le_refl _)
  have hb3 : Below w.heap.size w w3 := ⟨hce.os, hce.tape, hce.output, by have := hce.size; simp at this; omega, fun k hk => (hce.block k (by simp; omega) hk).trans (Below.heap_alloc _ _ _ hk)⟩
  have hy3 : Byt w3 (w.heap.size ≤ ·) (some ⟨w.heap.size, 0, none⟩) 1 1 [120] := (fbyt_filled (w' := w.alloc (.cells #[.int .u8 120] 5)) (l := [120]) (n := 1) (heap_alloc_new w _) rfl (by omega) (Nat.le_refl _)).cel hce
  obtain ⟨w4, hw4⟩ : ∃ w4, w4 = w3.alloc (Obj.cells #[.string ⟨#[97, 47, 98]⟩, .slice (some ⟨w.heap.size, 0, none⟩) 1 1, .string ⟨#[97, 47, 99, 47, 100]⟩, .slice none 0 0, .string ⟨#[101]⟩, .slice none 0 0] 50) := ⟨_, rfl⟩
  have hb4 : Below w.heap.size w w4 := hb3.trans (by rw [hw4]; exact (Below.refl _ _).alloc hb3.size _)
  have hfl : Fls w4 (w.heap.size ≤ ·) (some ⟨w3.heap.size, 0, none⟩) 3 3 fyL := by
    refine fls_block (L := [((some ⟨w.heap.size, 0, none⟩, 1, 1), ([97, 47, 98], [120])), ((none, 0, 0), ([97, 47, 99, 47, 100], [])), ((none, 0, 0), ([101], []))]) (by rw [hw4]; exact heap_alloc_new w3 _) hb3.size (fun y hy => ?_) (by simp)
    rcases List.mem_cons.1 hy with rfl | hy
    · rw [hw4]; exact hy3.alloc _
    · rcases List.mem_cons.1 hy with rfl | hy
      · exact Byt.nil _ _ _ _ (Nat.zero_le _)
      · obtain rfl := List.mem_singleton.1 hy
        exact Byt.nil _ _ _ _ (Nat.zero_le _)
  have hun := under_any hfl (by omega) (rise_ris (chk_ok fy_chk).1) fy_len [] (by simp)
  rw [fy_und] at hun
  have H4 := Lib.hid (And.intro hfl hb4)
  clear hfl hb4 hy3 hce hb3
  rw [hw4] at hun
  go_enter Tryd.func9, Tryd.ntmps9
  go_upto_region 3 with (go_at_call 22; refine hun.mono ?_; clear hun; rintro _ w5 ⟨A1, c1, A2, c2, rfl, hs5, hd5, hb5, _, _⟩)
  rw [← hw4] at hs5 hd5 hb5
  have hb05 := H4.out.2.trans (hb5.mono H4.out.2.size)
  have hf5 := H4.out.1.below hb5
  have H5 := Lib.hid (And.intro hf5 (And.intro hs5 (And.intro hd5 hb05)))
  have hpt := fput_any hf5 (by omega) (fun x hx => by have := fy_len x hx; unfold maxLen; omega)
  rw [fy_chk] at hpt
  clear hs5 hd5 hb5 hb05 hf5 hw4 hcv
  go_upto_region 4 with (go_at_call 12; refine hpt.mono ?_; clear hpt; rintro _ w6 ⟨A6, n6, c6, rfl, hy6, hb6⟩)
  have hfb : fpB fyL = filB fyL := by unfold fpB; rw [if_pos fy_chk]
  rw [hfb] at hy6
  have hlen6 : n6 ≤ 100000000 := by
    rw [← hy6.len]
    have ho := fi_ok fy_chk
    have h1 := ho.take 3
    have h2 : filB fyL = put fyL.length ++ filEs (fyL.take 3) := rfl
    have h3 := put_length_64 (x := fyL.length) (by simp [fyL])
    rw [h2, List.length_append]
    omega
  have hgt := fget_any hy6 hlen6
  rw [get_put fy_chk] at hgt
  have H6 := Lib.hid (And.intro (H5.out.1.below hb6) (And.intro (H5.out.2.1.below hb6) (And.intro (H5.out.2.2.1.below hb6) (H5.out.2.2.2.trans (hb6.mono H5.out.2.2.2.size)))))
  clear hy6 hb6 hfb hlen6 H5
  go_upto_region 5 with (go_at_call 18; refine hgt.mono ?_; clear hgt; rintro _ w7 ⟨A7, c7, rfl, hf7, hb7⟩)
  have H7 := Lib.hid (And.intro (H6.out.1.below hb7) (And.intro (H6.out.2.1.below hb7) (And.intro (H6.out.2.2.1.below hb7) (And.intro (H6.out.2.2.2.trans (hb7.mono H6.out.2.2.2.size)) hf7))))
  clear hf7 hb7 H6
  have hck := check_files H7.out.1 (by omega) (fun x hx => by have := fy_len x hx; unfold maxLen; omega)
  rw [fy_chk] at hck
  have hnm : ∀ W, Below w7.heap.size w7 W → ∃ b o, A1 = some ⟨b, o, none⟩ ∧ W.cell? ⟨b, o, none⟩ = some (.string ⟨#[97]⟩) ∧ W.cell? ⟨b, o + 1, none⟩ = some (.string ⟨#[101]⟩) := fun W hW => by
    obtain ⟨b, o, e, _, _, hc⟩ := (H7.out.2.1.below hW).row (by simp)
    exact ⟨b, o, e, hc 0 (by simp), hc 1 (by simp)⟩
  have hdm : ∀ W, Below w7.heap.size w7 W → ∃ b o, A2 = some ⟨b, o, none⟩ ∧ W.cell? ⟨b, o, none⟩ = some (.bool true) ∧ W.cell? ⟨b, o + 1, none⟩ = some (.bool false) := fun W hW => by
    obtain ⟨b, o, e, _, _, hc⟩ := (H7.out.2.2.1.below hW).row (by simp)
    exact ⟨b, o, e, hc 0 (by simp), hc 1 (by simp)⟩
  obtain ⟨b1, o1, rfl, _, _⟩ := hnm w7 (Below.refl _ _)
  obtain ⟨b2, o2, rfl, _, _⟩ := hdm w7 (Below.refl _ _)
  have HN := Lib.hid hnm
  have HD := Lib.hid hdm
  clear hnm hdm
  have hno := fun W => path_any [97, 47, 47, 98] (by unfold maxLen; simp) W
  rw [fy_no] at hno
  have hst : st [97, 47, 47, 98] = ⟨#[97, 47, 47, 98]⟩ := rfl
  rw [hst] at hno
  clear hst
  go_wp2_with (first
    | (go_at_call 16; refine hck.mono ?_; clear hck; rintro _ w8 ⟨rfl, hb8⟩; obtain ⟨b1', o1', e1, n1, n2⟩ := HN.out w8 hb8; injection e1 with e1; injection e1 with e1 e2; subst e1 e2; obtain ⟨b2', o2', e3, d1, d2⟩ := HD.out w8 hb8; injection e3 with e3; injection e3 with e3 e4; subst e3 e4; have hsm := fsame_any (H7.out.1.below hb8) (H7.out.2.2.2.2.below hb8) (by omega); rw [decide_eq_true (rfl : fyL = fyL)] at hsm)
    | (go_at_call 19; refine hsm.mono ?_; clear hsm; rintro _ w9 ⟨rfl, hb9⟩)
    | (go_at_call 14; refine (hno _).mono ?_; clear hno; rintro _ w10 ⟨rfl, hb10⟩))
  go_ret
  have hb78 := H7.out.2.2.2.1.trans (hb8.mono H7.out.2.2.2.1.size)
  have hb89 := hb78.trans (hb9.mono hb78.size)
  exact ⟨rfl, hb89.trans (hb10.mono hb89.size)⟩
end Go.Proofs.YtpcoiakdbfihlaaDoor

/-! How arguments are opened for my walks. -/
namespace Go.Proofs.YtpcoiakdbfihlaaDoor
open Go.ChangeShapes Go.WideShapes Go.ChangeAt Go.RowKit

theorem own_knob : ownKnob Tryd.prog.godebug = none := by kernel_rfl
theorem laid_out : laidOutB Tryd.prog = true := by kernel_rfl

theorem u8_bounds {z : Int} (h : (Lit.int .u8 z).wf = true) : 0 ≤ z ∧ z < 256 := by
  have := bounds_u8 h
  omega

/-- A row of numbers of bytes that came in. -/
theorem byt_of_ints {w : World} {x : Addr} {len cap : Nat} {zs : List Int} (hl : len ≤ cap) (hm : cap ≤ maxLen) (hz : zs.length = cap) (hcell : ∀ i, i < zs.length → w.cell? (x.add i) = some (.int .u8 (zs.getD i 0)))
    (hwz : ∀ n ∈ zs, (Lit.int .u8 n).wf = true) : Byt w (fun _ => True) (some x) len cap ((zs.take len).map fun z => UInt8.ofNat z.toNat) := by
  refine ⟨by simp; omega, hl, hm, fun h0 => ?_⟩
  obtain ⟨b, off, spot⟩ := x
  have hc0 := hcell 0 (by omega)
  have hspot : spot = none := by simpa [Addr.add] using World.cell?_spot hc0
  subst hspot
  have hlt := World.block_lt_of_cell? _ _ hc0
  rw [add_plain] at hlt
  refine ⟨b, off, rfl, trivial, hlt, fun i hi => ?_⟩
  have hc := hcell i (by omega)
  rw [add_plain] at hc
  rw [hc]
  have hi2 : i < zs.length := by omega
  have hb := u8_bounds (hwz zs[i] (List.getElem_mem hi2))
  simp only [List.getD, List.getElem?_eq_getElem hi2, Option.getD_some, List.getElem?_map, List.getElem?_take_of_lt hi, Option.map_some]
  congr 2
  simp
  omega

theorem bytes_in {w : World} {H : Type} {enc : TypeId × Value → H} {base : Nat} {spare : Nat → Bool} {held : Bool} {a : Option Addr} {len cap : Nat} {d : DataW H} {p : List MemPlace}
    (hs : spare = fun _ => true) (h : DataW.Trod enc Tryd.prog w base spare held 27 (.slice a len cap) d p) : ∃ l, Byt w (fun _ => True) a len cap l := by
  subst hs
  obtain ⟨fuel, hf⟩ := h
  rcases open_ints Tryd.underlying27 Tryd.underlying5 (by kernel_rfl) hf with ⟨hcs, _⟩ | ⟨x, l, c, zs, hcs, _, hl, hm, hz, _, hcell, hwz⟩
  · simp [Value.cells] at hcs
    obtain ⟨rfl, rfl, rfl⟩ := hcs
    exact ⟨[], Byt.nil _ _ _ _ (Nat.zero_le _)⟩
  · simp [Value.cells] at hcs
    obtain ⟨rfl, rfl, rfl⟩ := hcs
    exact ⟨_, byt_of_ints hl hm (by simpa using hz) hcell hwz⟩

theorem trod_lt {w : World} {H : Type} {enc : TypeId × Value → H} {base : Nat} {spare : Nat → Bool} {held : Bool} {t : TypeId} {v : Value} {d : DataW H} {p : List MemPlace}
    (h : DataW.Trod enc Tryd.prog w base spare held t v d p) : ∀ x ∈ p, x.block < w.heap.size := by
  obtain ⟨m, hm⟩ := h
  exact DataW.trod_lt m _ _ _ hm
end Go.Proofs.YtpcoiakdbfihlaaDoor

/-! What the listed variables hold (utf8's tables, which no walk reads): the list, the start of a witness. -/
namespace Go.Proofs.YtpcoiakdbfihlaaDoor
open Go.ChangeShapes Go.WideShapes Go.ChangeAt Go.WideMaps Go.WideElems Go.RowKit

noncomputable def laidsU : List (String × DataW Unit) := [("unicode/utf8.acceptRanges", Rows.laid_unicode_utf8_acceptRanges), ("unicode/utf8.first", Rows.laid_unicode_utf8_first)]
theorem door_metU (os : Os) (args : Array Value) : laidMetH Tryd.prog laidsU ((World.laidAll Tryd.prog os laidsU).forCall (fun _ _ => 0) ⟨#[], args, []⟩).memory := by
  rw [MakeChecks.laidMetH_plain _ _ _ (by kernel_rfl)]
  exact laidMet_laidAll _ (by kernel_rfl) (by kernel_rfl)
end Go.Proofs.YtpcoiakdbfihlaaDoor
