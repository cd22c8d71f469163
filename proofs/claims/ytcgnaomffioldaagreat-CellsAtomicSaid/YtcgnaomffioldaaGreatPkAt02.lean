/-
  Cells: the laws' has.
-/
import Derived.Test.YtcgnaomffioldaaGreatPkAt01
import Derived.Test.YtcgnaomffioldaaGreatPk16
import Derived.Test.YtcgnaomffioldaaGreatPk03
/-! Cells: the laws' has. -/
namespace Go.Proofs.YtcgnaomffioldaaGreat
open Go.RowKit Codec

def tabOf (l : List Ch) : Tb := l.map fun x => (x.k, x.v)
def RHas (w : World) (t : Tb) (l : List Ch) (i : Value) (wr : World) : Prop :=
  ∃ j : Nat, j ≤ l.length ∧ i = .int .i64 (j : Int) ∧ t.take j = (tabOf l).take j ∧ Below w.heap.size w wr
theorem tab_next {t : Tb} {l : List Ch} {j : Nat} {P : List UInt8 × List UInt8} {x : Ch} (h : t.take j = (tabOf l).take j) (h1 : t[j]? = some P) (h2 : l[j]? = some x) (e1 : P.1 = x.k) (e2 : P.2 = x.v) : t.take (j + 1) = (tabOf l).take (j + 1) := by
  have h3 : (tabOf l)[j]? = some (x.k, x.v) := by unfold tabOf; rw [List.getElem?_map, h2]; rfl
  rw [List.take_add_one, List.take_add_one, h, h1, h3, ← e1, ← e2]
theorem tab_unlike {t : Tb} {l : List Ch} {j : Nat} {P : List UInt8 × List UInt8} {x : Ch} (h1 : t[j]? = some P) (h2 : l[j]? = some x) (e : P.1 ≠ x.k ∨ P.2 ≠ x.v) : decide (t = tabOf l) = false := by
  refine decide_eq_false fun h => ?_
  have h3 : (tabOf l)[j]? = some (x.k, x.v) := by unfold tabOf; rw [List.getElem?_map, h2]; rfl
  rw [← h, h1] at h3
  injection h3 with h3
  rw [h3] at e
  rcases e with e | e <;> exact e rfl
set_option maxHeartbeats 8000000 in
set_option maxRecDepth 100000 in
theorem has_any {w : World} {S U : Nat → Prop} {p g : Nat} {s : SM} {A : Option Addr} {n c : Nat} {l : List Ch} (h : Cs w S p g s) (ht : Cms w U A n c l) (hn : n ≤ 1000000) (hf : s.t.length ≤ 100000000) (hk : ∀ x ∈ l, x.k.length ≤ 1000000) (hv : ∀ q ∈ s.t, q.2.length ≤ 1000000) :
    Calls Tryz.prog 21 #[.pointer (some ⟨p, 0, none⟩), .slice A n c] w fun e w' => e = .returned (.bool (decide (s.t = tabOf l))) ∧ Below w.heap.size w w' := by
  have hks := ckeys_any h hf
  have hsrt := h.srt
  have HS := Lib.hid (And.intro h (And.intro ht (And.intro ht.len (And.intro hn (And.intro hk (And.intro hv hsrt))))))
  clear h ht hn hf hk hv hsrt
  by_cases hnn : s.t.length = n
  · have HNN := Lib.hid hnn
    go_enter Tryz.func21, Tryz.ntmps21
    go_upto_region 2 with (go_at_call 26; refine hks.mono ?_; clear hks; rintro _ w1 ⟨A1, n1, c1, rfl, hs1, hb1⟩)
    obtain rfl : n1 = n := by rw [← hs1.len, ← hnn]; simp
    have H1 := Lib.hid (And.intro hs1 hb1)
    clear hs1 hb1 hnn
    go_wp2_with fail
    go_loopw [6] (fun i wr => RHas w1 s.t l i wr) (fun i _ => n1 - (intOf i).toNat)
    case atStart => exact ⟨0, Nat.zero_le _, rfl, rfl, Below.refl _ _⟩
    case round =>
      obtain ⟨j, hj, rfl, htk, hbr⟩ := hrel
      by_cases hlt : j < n1
      · have hlt' : (j : Int) < (n1 : Int) := by omega
        have hadd := IntWalk.i64_in ((j : Int) + 1) (by have h1 := HS.out.2.2.2.1; omega)
        have hbw : Below w.heap.size w wr := H1.out.2.trans (hbr.mono H1.out.2.size)
        obtain ⟨b, off, x, rfl, _, hb, hx, hc0, hc1, hc2⟩ := (HS.out.2.1.below hbw).at_ hlt
        obtain ⟨q1, o1, rfl, _, hq1, hst⟩ := (H1.out.1.below hbr).row (by omega)
        have hsc := hst j hlt
        obtain ⟨P, hP⟩ : ∃ P, s.t[j]? = some P := ⟨_, List.getElem?_eq_getElem (by have := HNN.out; omega)⟩
        have hkj : ((s.t.map (·.1))[j]?.getD []) = P.1 := by rw [List.getElem?_map, hP]; rfl
        rw [hkj] at hsc
        have hget := cget_any (HS.out.1.below hbw) x.k (HS.out.2.2.2.2.1 x (List.mem_of_getElem? hx)) (by
          cases hq : getT s.t x.k with
          | none => simp
          | some v => exact HS.out.2.2.2.2.2.1 _ (getT_some hq))
        obtain ⟨R, hR⟩ : ∃ R, R = getT s.t x.k := ⟨_, rfl⟩
        rw [← hR] at hget
        have HX := Lib.hid (And.intro hx (And.intro hP (And.intro hR (And.intro hlt hj))))
        have HR := Lib.hid (And.intro hbr (And.intro hbw htk))
        have HK := Lib.hid (And.intro hq1 (And.intro hsc (And.intro hb (And.intro hc0 hc1))))
        clear hbr hbw htk hb hx hc1 hc2 hq1 hst hsc hP hkj hR hj hlt
        go_upto_region 8 with (go_at_call 25; refine hget.mono ?_; clear hget; rintro _ w3 ⟨A3, n3, c3, rfl, hy3, hb3⟩)
        have hxv : ∀ W, Below w3.drew.heap.size w3.drew W → Below wr.heap.size wr W := fun W hW => hb3.trans ((Grow.below_of_drew hW).mono hb3.size)
        obtain ⟨Y, hY⟩ : ∃ Y, Y = R.getD [] := ⟨_, rfl⟩
        rw [← hY] at hy3
        obtain ⟨XK, hXK⟩ : ∃ XK, XK = x.k := ⟨_, rfl⟩
        obtain ⟨XV, hXV⟩ : ∃ XV, XV = x.v := ⟨_, rfl⟩
        obtain ⟨KJ, hKJ⟩ : ∃ KJ, KJ = P.1 := ⟨_, rfl⟩
        have HC : Hid (∀ W, Below w3.drew.heap.size w3.drew W → W.cell? ⟨q1, o1 + j, none⟩ = some (.string (st KJ)) ∧ W.cell? ⟨b, off + j * 3, none⟩ = some (.string (st XK)) ∧ W.cell? ⟨b, off + j * 3 + 1, none⟩ = some (.string (st XV)) ∧ (convert 54 9 (.slice A3 n3 c3)).run Tryz.prog W = .ok (.string (st Y)) W) := Lib.hid fun W hW => by
          have hW2 := hxv W hW
          rw [hKJ, hXK, hXV]
          exact ⟨(hW2.cell (p := ⟨_, _, none⟩) HK.out.1).trans HK.out.2.1, (hW2.cell (p := ⟨_, _, none⟩) HK.out.2.2.1).trans HK.out.2.2.2.1, (hW2.cell (p := ⟨_, _, none⟩) HK.out.2.2.1).trans HK.out.2.2.2.2, byt_string (hy3.below (Grow.below_of_drew hW))⟩
        have HV := Lib.hid (And.intro hXK (And.intro hXV (And.intro hKJ (And.intro hY hxv))))
        clear hXK hXV hKJ hY hxv hy3 hb3 hc0
        have hbq := st_beq KJ XK
        by_cases he : KJ = XK
        · rw [decide_eq_true he] at hbq
          have hRs : R = some P.2 := by
            rw [HX.out.2.2.1, ← HV.out.1, ← he, HV.out.2.2.1]
            exact getT_mem HS.out.2.2.2.2.2.2 (List.mem_of_getElem? HX.out.2.1)
          have HEQ := Lib.hid (And.intro he hRs)
          have hsm : R.isSome = true := by rw [hRs]; rfl
          rw [hsm]
          clear he hRs hsm
          have hbv := st_beq Y XV
          by_cases hev : Y = XV
          · rw [decide_eq_true hev] at hbv
            have HEV := Lib.hid hev
            clear hev
            refine wp_region_grow (fun W W' => Below W.heap.size W W') (Grow.nth [fun v _ => v = .slice (some ⟨q1, o1, none⟩) n1 c1, fun v _ => v = .int .i64 (j : Int), fun v _ => v = .pointer (some ⟨q1, o1 + j, none⟩), fun v _ => v = .string (st KJ), fun v _ => v = .slice (some ⟨b, off, none⟩) n1 c, fun v _ => v = .int .i64 (j : Int), fun v _ => v = .pointer (some ⟨b, off + j * 3, none⟩), fun v _ => v = .pointer (some ⟨b, off + j * 3, none⟩), fun v _ => v = .string (st XK), fun v _ => v = .bool false, fun v _ => v = .bool false, fun v _ => v = .bool true, fun v _ => v = .bool false, fun v _ => v = .bool false, fun v _ => v = .bool false, fun v _ => v = .slice A3 n3 c3, fun v _ => v = .string (st Y), fun v _ => v = .slice (some ⟨b, off, none⟩) n1 c, fun v _ => v = .int .i64 (j : Int), fun v _ => v = .pointer (some ⟨b, off + j * 3, none⟩), fun v _ => v = .pointer (some ⟨b, off + j * 3 + 1, none⟩), fun v _ => v = .string (st XV), fun v _ => v = .bool false, fun v _ => v = .bool false]) 56 (by kernel_rfl) (by kernel_rfl) (by rfl) (fun W => Below.refl _ W) (fun _ _ _ h1 h2 => h1.trans (h2.mono h1.size)) (Grow.mono_nth ?gmono) ?gsteps ?gfin
            case gmono => exact ⟨fun _ _ _ h _ => h, fun _ _ _ h _ => h, fun _ _ _ h _ => h, fun _ _ _ h _ => h, fun _ _ _ h _ => h, fun _ _ _ h _ => h, fun _ _ _ h _ => h, fun _ _ _ h _ => h, fun _ _ _ h _ => h, fun _ _ _ h _ => h, fun _ _ _ h _ => h, fun _ _ _ h _ => h, fun _ _ _ h _ => h, fun _ _ _ h _ => h, fun _ _ _ h _ => h, fun _ _ _ h _ => h, fun _ _ _ h _ => h, fun _ _ _ h _ => h, fun _ _ _ h _ => h, fun _ _ _ h _ => h, fun _ _ _ h _ => h, fun _ _ _ h _ => h, fun _ _ _ h _ => h, fun _ _ _ h _ => h, trivial⟩
            case gsteps =>
              show Grow.allBelow _ 24
              refine And.intro ?_ ?s23
              refine And.intro ?_ ?s22
              refine And.intro ?_ ?s21
              refine And.intro ?_ ?s20
              refine And.intro ?_ ?s19
              refine And.intro ?_ ?s18
              refine And.intro ?_ ?s17
              refine And.intro ?_ ?s16
              refine And.intro ?_ ?s15
              refine And.intro ?_ ?s14
              refine And.intro ?_ ?s13
              refine And.intro ?_ ?s12
              refine And.intro ?_ ?s11
              refine And.intro ?_ ?s10
              refine And.intro ?_ ?s9
              refine And.intro ?_ ?s8
              refine And.intro ?_ ?s7
              refine And.intro ?_ ?s6
              refine And.intro ?_ ?s5
              refine And.intro ?_ ?s4
              refine And.intro ?_ ?s3
              refine And.intro ?_ ?s2
              refine And.intro ?_ ?s1
              refine And.intro ?_ ?s0
              exact trivial
              case s0 =>
                refine Grow.step_in (by rfl) (by rfl) ?_
                intro E W ec eg ef hG hd hu R HR1
                have e5 : E (.tmp 5) = .slice (some ⟨q1, o1, none⟩) n1 c1 := hu 5 (by kernel_rfl)
                clear hd hu
                go_simp
                exact HR1.out _ _ (Below.refl _ _) rfl
              case s1 =>
                refine Grow.step_in (by rfl) (by rfl) ?_
                intro E W ec eg ef hG hd hu R HR1
                have e6 : E (.tmp 6) = .int .i64 (j : Int) := hu 6 (by kernel_rfl)
                clear hd hu
                go_simp
                exact HR1.out _ _ (Below.refl _ _) rfl
              case s2 =>
                refine Grow.step_in (by rfl) (by rfl) ?_
                intro E W ec eg ef hG hd hu R HR1
                have e32 : E (.tmp 32) = .slice (some ⟨q1, o1, none⟩) n1 c1 := hd 0 32 (by kernel_rfl)
                have e33 : E (.tmp 33) = .int .i64 (j : Int) := hd 1 33 (by kernel_rfl)
                clear hd hu
                have hjl := HX.out.2.2.2.1
                go_simp
                first | exact HR1.out _ _ (Below.refl _ _) rfl | (rw [if_pos ⟨by omega, by omega⟩]; exact HR1.out _ _ (Below.refl _ _) rfl)
              case s3 =>
                refine Grow.step_in (by rfl) (by rfl) ?_
                intro E W ec eg ef hG hd hu R HR1
                have e34 : E (.tmp 34) = .pointer (some ⟨q1, o1 + j, none⟩) := hd 2 34 (by kernel_rfl)
                clear hd hu
                obtain ⟨k1, k2, k3, k4⟩ := HC.out W hG
                go_simp
                exact HR1.out _ _ (Below.refl _ _) rfl
              case s4 =>
                refine Grow.step_in (by rfl) (by rfl) ?_
                intro E W ec eg ef hG hd hu R HR1
                have e1 : E (.tmp 1) = .slice (some ⟨b, off, none⟩) n1 c := hu 1 (by kernel_rfl)
                clear hd hu
                go_simp
                exact HR1.out _ _ (Below.refl _ _) rfl
              case s5 =>
                refine Grow.step_in (by rfl) (by rfl) ?_
                intro E W ec eg ef hG hd hu R HR1
                have e6 : E (.tmp 6) = .int .i64 (j : Int) := hu 6 (by kernel_rfl)
                clear hd hu
                go_simp
                exact HR1.out _ _ (Below.refl _ _) rfl
              case s6 =>
                refine Grow.step_in (by rfl) (by rfl) ?_
                intro E W ec eg ef hG hd hu R HR1
                have e36 : E (.tmp 36) = .slice (some ⟨b, off, none⟩) n1 c := hd 4 36 (by kernel_rfl)
                have e37 : E (.tmp 37) = .int .i64 (j : Int) := hd 5 37 (by kernel_rfl)
                clear hd hu
                have hjl := HX.out.2.2.2.1
                go_simp
                first | exact HR1.out _ _ (Below.refl _ _) rfl | (rw [if_pos ⟨by omega, by omega⟩]; exact HR1.out _ _ (Below.refl _ _) rfl)
              case s7 =>
                refine Grow.step_in (by rfl) (by rfl) ?_
                intro E W ec eg ef hG hd hu R HR1
                have e38 : E (.tmp 38) = .pointer (some ⟨b, off + j * 3, none⟩) := hd 6 38 (by kernel_rfl)
                clear hd hu
                go_simp
                exact HR1.out _ _ (Below.refl _ _) rfl
              case s8 =>
                refine Grow.step_in (by rfl) (by rfl) ?_
                intro E W ec eg ef hG hd hu R HR1
                have e39 : E (.tmp 39) = .pointer (some ⟨b, off + j * 3, none⟩) := hd 7 39 (by kernel_rfl)
                clear hd hu
                obtain ⟨k1, k2, k3, k4⟩ := HC.out W hG
                go_simp
                exact HR1.out _ _ (Below.refl _ _) rfl
              case s9 =>
                refine Grow.step_in (by rfl) (by rfl) ?_
                intro E W ec eg ef hG hd hu R HR1
                have e35 : E (.tmp 35) = .string (st KJ) := hd 3 35 (by kernel_rfl)
                have e40 : E (.tmp 40) = .string (st XK) := hd 8 40 (by kernel_rfl)
                clear hd hu
                go_simp
                exact HR1.out _ _ (Below.refl _ _) rfl
              case s10 =>
                refine Grow.step_in (by rfl) (by rfl) ?_
                intro E W ec eg ef hG hd hu R HR1
                have e41 : E (.tmp 41) = .bool false := hd 9 41 (by kernel_rfl)
                clear hd hu
                go_simp
                exact HR1.out _ _ (Below.refl _ _) rfl
              case s11 =>
                refine Grow.step_on (g := 10) (b := false) (d := 42) (by rfl) (by rfl) (by rfl) (by kernel_rfl) (fun v W h => h) ?_
                intro E W ec eg ef hG hd hu R HR1
                have e8 : E (.tmp 8) = .bool true := hu 8 (by kernel_rfl)
                clear hd hu
                go_simp
                exact HR1.out _ _ (Below.refl _ _) rfl
              case s12 =>
                refine Grow.step_on (g := 10) (b := false) (d := 42) (by rfl) (by rfl) (by rfl) (by kernel_rfl) (fun v W h => h) ?_
                intro E W ec eg ef hG hd hu R HR1
                have e43 : E (.tmp 43) = .bool true := hd 11 43 (by kernel_rfl)
                clear hd hu
                go_simp
                exact HR1.out _ _ (Below.refl _ _) rfl
              case s13 =>
                refine Grow.step_in (by rfl) (by rfl) ?_
                intro E W ec eg ef hG hd hu R HR1
                have e42 : E (.tmp 42) = .bool false := hd 10 42 (by kernel_rfl)
                have e44 : E (.tmp 44) = .bool false := hd 12 44 (by kernel_rfl)
                clear hd hu
                go_simp
                exact HR1.out _ _ (Below.refl _ _) rfl
              case s14 =>
                refine Grow.step_in (by rfl) (by rfl) ?_
                intro E W ec eg ef hG hd hu R HR1
                have e45 : E (.tmp 45) = .bool false := hd 13 45 (by kernel_rfl)
                clear hd hu
                go_simp
                exact HR1.out _ _ (Below.refl _ _) rfl
              case s15 =>
                refine Grow.step_on (g := 14) (b := false) (d := 46) (by rfl) (by rfl) (by rfl) (by kernel_rfl) (fun v W h => h) ?_
                intro E W ec eg ef hG hd hu R HR1
                have e7 : E (.tmp 7) = .slice A3 n3 c3 := hu 7 (by kernel_rfl)
                clear hd hu
                go_simp
                exact HR1.out _ _ (Below.refl _ _) rfl
              case s16 =>
                refine Grow.step_on (g := 14) (b := false) (d := 46) (by rfl) (by rfl) (by rfl) (by kernel_rfl) (fun v W h => h) ?_
                intro E W ec eg ef hG hd hu R HR1
                have e47 : E (.tmp 47) = .slice A3 n3 c3 := hd 15 47 (by kernel_rfl)
                clear hd hu
                obtain ⟨k1, k2, k3, k4⟩ := HC.out W hG
                go_simp
                exact HR1.out _ _ (Below.refl _ _) rfl
              case s17 =>
                refine Grow.step_on (g := 14) (b := false) (d := 46) (by rfl) (by rfl) (by rfl) (by kernel_rfl) (fun v W h => h) ?_
                intro E W ec eg ef hG hd hu R HR1
                have e1 : E (.tmp 1) = .slice (some ⟨b, off, none⟩) n1 c := hu 1 (by kernel_rfl)
                clear hd hu
                go_simp
                exact HR1.out _ _ (Below.refl _ _) rfl
              case s18 =>
                refine Grow.step_on (g := 14) (b := false) (d := 46) (by rfl) (by rfl) (by rfl) (by kernel_rfl) (fun v W h => h) ?_
                intro E W ec eg ef hG hd hu R HR1
                have e6 : E (.tmp 6) = .int .i64 (j : Int) := hu 6 (by kernel_rfl)
                clear hd hu
                go_simp
                exact HR1.out _ _ (Below.refl _ _) rfl
              case s19 =>
                refine Grow.step_on (g := 14) (b := false) (d := 46) (by rfl) (by rfl) (by rfl) (by kernel_rfl) (fun v W h => h) ?_
                intro E W ec eg ef hG hd hu R HR1
                have e49 : E (.tmp 49) = .slice (some ⟨b, off, none⟩) n1 c := hd 17 49 (by kernel_rfl)
                have e50 : E (.tmp 50) = .int .i64 (j : Int) := hd 18 50 (by kernel_rfl)
                clear hd hu
                have hjl := HX.out.2.2.2.1
                go_simp
                first | exact HR1.out _ _ (Below.refl _ _) rfl | (rw [if_pos ⟨by omega, by omega⟩]; exact HR1.out _ _ (Below.refl _ _) rfl)
              case s20 =>
                refine Grow.step_on (g := 14) (b := false) (d := 46) (by rfl) (by rfl) (by rfl) (by kernel_rfl) (fun v W h => h) ?_
                intro E W ec eg ef hG hd hu R HR1
                have e51 : E (.tmp 51) = .pointer (some ⟨b, off + j * 3, none⟩) := hd 19 51 (by kernel_rfl)
                clear hd hu
                go_simp
                exact HR1.out _ _ (Below.refl _ _) rfl
              case s21 =>
                refine Grow.step_on (g := 14) (b := false) (d := 46) (by rfl) (by rfl) (by rfl) (by kernel_rfl) (fun v W h => h) ?_
                intro E W ec eg ef hG hd hu R HR1
                have e52 : E (.tmp 52) = .pointer (some ⟨b, off + j * 3 + 1, none⟩) := hd 20 52 (by kernel_rfl)
                clear hd hu
                obtain ⟨k1, k2, k3, k4⟩ := HC.out W hG
                go_simp
                exact HR1.out _ _ (Below.refl _ _) rfl
              case s22 =>
                refine Grow.step_on (g := 14) (b := false) (d := 46) (by rfl) (by rfl) (by rfl) (by kernel_rfl) (fun v W h => h) ?_
                intro E W ec eg ef hG hd hu R HR1
                have e48 : E (.tmp 48) = .string (st Y) := hd 16 48 (by kernel_rfl)
                have e53 : E (.tmp 53) = .string (st XV) := hd 21 53 (by kernel_rfl)
                clear hd hu
                go_simp
                exact HR1.out _ _ (Below.refl _ _) rfl
              case s23 =>
                refine Grow.step_in (by rfl) (by rfl) ?_
                intro E W ec eg ef hG hd hu R HR1
                have e46 : E (.tmp 46) = .bool false := hd 14 46 (by kernel_rfl)
                have e54 : E (.tmp 54) = .bool false := hd 22 54 (by kernel_rfl)
                clear hd hu
                go_simp
                exact HR1.out _ _ (Below.refl _ _) rfl
            case gfin =>
              intro W hG
              refine Grow.fin_dst (by rfl) ?_
              rintro _ rfl
              refine Grow.fin_dst (by rfl) ?_
              rintro _ rfl
              refine Grow.fin_dst (by rfl) ?_
              rintro _ rfl
              refine Grow.fin_dst (by rfl) ?_
              rintro _ rfl
              refine Grow.fin_dst (by rfl) ?_
              rintro _ rfl
              refine Grow.fin_dst (by rfl) ?_
              rintro _ rfl
              refine Grow.fin_dst (by rfl) ?_
              rintro _ rfl
              refine Grow.fin_dst (by rfl) ?_
              rintro _ rfl
              refine Grow.fin_dst (by rfl) ?_
              rintro _ rfl
              refine Grow.fin_dst (by rfl) ?_
              rintro _ rfl
              refine Grow.fin_dst (by rfl) ?_
              rintro _ rfl
              refine Grow.fin_dst (by rfl) ?_
              rintro _ rfl
              refine Grow.fin_dst (by rfl) ?_
              rintro _ rfl
              refine Grow.fin_dst (by rfl) ?_
              rintro _ rfl
              refine Grow.fin_dst (by rfl) ?_
              rintro _ rfl
              refine Grow.fin_dst (by rfl) ?_
              rintro _ rfl
              refine Grow.fin_dst (by rfl) ?_
              rintro _ rfl
              refine Grow.fin_dst (by rfl) ?_
              rintro _ rfl
              refine Grow.fin_dst (by rfl) ?_
              rintro _ rfl
              refine Grow.fin_dst (by rfl) ?_
              rintro _ rfl
              refine Grow.fin_dst (by rfl) ?_
              rintro _ rfl
              refine Grow.fin_dst (by rfl) ?_
              rintro _ rfl
              refine Grow.fin_dst (by rfl) ?_
              rintro _ rfl
              refine Grow.fin_dst (by rfl) ?_
              rintro _ rfl
              simp only [Act.put, List.setIfInBounds_toArray, List.set_cons_zero, List.set_cons_succ]
              refine Grow.fin_end ?_
              have HB3 := Lib.hid (HV.out.2.2.2.2 W hG)
              clear hG
              go_wp2_with fail
              go_roundw
              case rel =>
                unfold RHas
                have hy := HV.out.2.2.2.1
                rw [HEQ.out.2] at hy
                exact ⟨j + 1, by have := HX.out.2.2.2.1; have := HS.out.2.2.1; omega, by simp, tab_next HR.out.2.2 HX.out.2.1 HX.out.1 (by rw [← HV.out.2.2.1, ← HV.out.1]; exact HEQ.out.1) (by rw [← HV.out.2.1, ← HEV.out, hy]; rfl), HR.out.1.trans (HB3.out.mono HR.out.1.size)⟩
              case measure => simp only [intOf]; have h1 := HX.out.2.2.2.1; omega
          · rw [decide_eq_false hev] at hbv
            have HEV := Lib.hid hev
            clear hev
            refine wp_region_grow (fun W W' => Below W.heap.size W W') (Grow.nth [fun v _ => v = .slice (some ⟨q1, o1, none⟩) n1 c1, fun v _ => v = .int .i64 (j : Int), fun v _ => v = .pointer (some ⟨q1, o1 + j, none⟩), fun v _ => v = .string (st KJ), fun v _ => v = .slice (some ⟨b, off, none⟩) n1 c, fun v _ => v = .int .i64 (j : Int), fun v _ => v = .pointer (some ⟨b, off + j * 3, none⟩), fun v _ => v = .pointer (some ⟨b, off + j * 3, none⟩), fun v _ => v = .string (st XK), fun v _ => v = .bool false, fun v _ => v = .bool false, fun v _ => v = .bool true, fun v _ => v = .bool false, fun v _ => v = .bool false, fun v _ => v = .bool false, fun v _ => v = .slice A3 n3 c3, fun v _ => v = .string (st Y), fun v _ => v = .slice (some ⟨b, off, none⟩) n1 c, fun v _ => v = .int .i64 (j : Int), fun v _ => v = .pointer (some ⟨b, off + j * 3, none⟩), fun v _ => v = .pointer (some ⟨b, off + j * 3 + 1, none⟩), fun v _ => v = .string (st XV), fun v _ => v = .bool true, fun v _ => v = .bool true]) 56 (by kernel_rfl) (by kernel_rfl) (by rfl) (fun W => Below.refl _ W) (fun _ _ _ h1 h2 => h1.trans (h2.mono h1.size)) (Grow.mono_nth ?gmono) ?gsteps ?gfin
            case gmono => exact ⟨fun _ _ _ h _ => h, fun _ _ _ h _ => h, fun _ _ _ h _ => h, fun _ _ _ h _ => h, fun _ _ _ h _ => h, fun _ _ _ h _ => h, fun _ _ _ h _ => h, fun _ _ _ h _ => h, fun _ _ _ h _ => h, fun _ _ _ h _ => h, fun _ _ _ h _ => h, fun _ _ _ h _ => h, fun _ _ _ h _ => h, fun _ _ _ h _ => h, fun _ _ _ h _ => h, fun _ _ _ h _ => h, fun _ _ _ h _ => h, fun _ _ _ h _ => h, fun _ _ _ h _ => h, fun _ _ _ h _ => h, fun _ _ _ h _ => h, fun _ _ _ h _ => h, fun _ _ _ h _ => h, fun _ _ _ h _ => h, trivial⟩
            case gsteps =>
              show Grow.allBelow _ 24
              refine And.intro ?_ ?s23
              refine And.intro ?_ ?s22
              refine And.intro ?_ ?s21
              refine And.intro ?_ ?s20
              refine And.intro ?_ ?s19
              refine And.intro ?_ ?s18
              refine And.intro ?_ ?s17
              refine And.intro ?_ ?s16
              refine And.intro ?_ ?s15
              refine And.intro ?_ ?s14
              refine And.intro ?_ ?s13
              refine And.intro ?_ ?s12
              refine And.intro ?_ ?s11
              refine And.intro ?_ ?s10
              refine And.intro ?_ ?s9
              refine And.intro ?_ ?s8
              refine And.intro ?_ ?s7
              refine And.intro ?_ ?s6
              refine And.intro ?_ ?s5
              refine And.intro ?_ ?s4
              refine And.intro ?_ ?s3
              refine And.intro ?_ ?s2
              refine And.intro ?_ ?s1
              refine And.intro ?_ ?s0
              exact trivial
              case s0 =>
                refine Grow.step_in (by rfl) (by rfl) ?_
                intro E W ec eg ef hG hd hu R HR1
                have e5 : E (.tmp 5) = .slice (some ⟨q1, o1, none⟩) n1 c1 := hu 5 (by kernel_rfl)
                clear hd hu
                go_simp
                exact HR1.out _ _ (Below.refl _ _) rfl
              case s1 =>
                refine Grow.step_in (by rfl) (by rfl) ?_
                intro E W ec eg ef hG hd hu R HR1
                have e6 : E (.tmp 6) = .int .i64 (j : Int) := hu 6 (by kernel_rfl)
                clear hd hu
                go_simp
                exact HR1.out _ _ (Below.refl _ _) rfl
              case s2 =>
                refine Grow.step_in (by rfl) (by rfl) ?_
                intro E W ec eg ef hG hd hu R HR1
                have e32 : E (.tmp 32) = .slice (some ⟨q1, o1, none⟩) n1 c1 := hd 0 32 (by kernel_rfl)
                have e33 : E (.tmp 33) = .int .i64 (j : Int) := hd 1 33 (by kernel_rfl)
                clear hd hu
                have hjl := HX.out.2.2.2.1
                go_simp
                first | exact HR1.out _ _ (Below.refl _ _) rfl | (rw [if_pos ⟨by omega, by omega⟩]; exact HR1.out _ _ (Below.refl _ _) rfl)
              case s3 =>
                refine Grow.step_in (by rfl) (by rfl) ?_
                intro E W ec eg ef hG hd hu R HR1
                have e34 : E (.tmp 34) = .pointer (some ⟨q1, o1 + j, none⟩) := hd 2 34 (by kernel_rfl)
                clear hd hu
                obtain ⟨k1, k2, k3, k4⟩ := HC.out W hG
                go_simp
                exact HR1.out _ _ (Below.refl _ _) rfl
              case s4 =>
                refine Grow.step_in (by rfl) (by rfl) ?_
                intro E W ec eg ef hG hd hu R HR1
                have e1 : E (.tmp 1) = .slice (some ⟨b, off, none⟩) n1 c := hu 1 (by kernel_rfl)
                clear hd hu
                go_simp
                exact HR1.out _ _ (Below.refl _ _) rfl
              case s5 =>
                refine Grow.step_in (by rfl) (by rfl) ?_
                intro E W ec eg ef hG hd hu R HR1
                have e6 : E (.tmp 6) = .int .i64 (j : Int) := hu 6 (by kernel_rfl)
                clear hd hu
                go_simp
                exact HR1.out _ _ (Below.refl _ _) rfl
              case s6 =>
                refine Grow.step_in (by rfl) (by rfl) ?_
                intro E W ec eg ef hG hd hu R HR1
                have e36 : E (.tmp 36) = .slice (some ⟨b, off, none⟩) n1 c := hd 4 36 (by kernel_rfl)
                have e37 : E (.tmp 37) = .int .i64 (j : Int) := hd 5 37 (by kernel_rfl)
                clear hd hu
                have hjl := HX.out.2.2.2.1
                go_simp
                first | exact HR1.out _ _ (Below.refl _ _) rfl | (rw [if_pos ⟨by omega, by omega⟩]; exact HR1.out _ _ (Below.refl _ _) rfl)
              case s7 =>
                refine Grow.step_in (by rfl) (by rfl) ?_
                intro E W ec eg ef hG hd hu R HR1
                have e38 : E (.tmp 38) = .pointer (some ⟨b, off + j * 3, none⟩) := hd 6 38 (by kernel_rfl)
                clear hd hu
                go_simp
                exact HR1.out _ _ (Below.refl _ _) rfl
              case s8 =>
                refine Grow.step_in (by rfl) (by rfl) ?_
                intro E W ec eg ef hG hd hu R HR1
                have e39 : E (.tmp 39) = .pointer (some ⟨b, off + j * 3, none⟩) := hd 7 39 (by kernel_rfl)
                clear hd hu
                obtain ⟨k1, k2, k3, k4⟩ := HC.out W hG
                go_simp
                exact HR1.out _ _ (Below.refl _ _) rfl
              case s9 =>
                refine Grow.step_in (by rfl) (by rfl) ?_
                intro E W ec eg ef hG hd hu R HR1
                have e35 : E (.tmp 35) = .string (st KJ) := hd 3 35 (by kernel_rfl)
                have e40 : E (.tmp 40) = .string (st XK) := hd 8 40 (by kernel_rfl)
                clear hd hu
                go_simp
                exact HR1.out _ _ (Below.refl _ _) rfl
              case s10 =>
                refine Grow.step_in (by rfl) (by rfl) ?_
                intro E W ec eg ef hG hd hu R HR1
                have e41 : E (.tmp 41) = .bool false := hd 9 41 (by kernel_rfl)
                clear hd hu
                go_simp
                exact HR1.out _ _ (Below.refl _ _) rfl
              case s11 =>
                refine Grow.step_on (g := 10) (b := false) (d := 42) (by rfl) (by rfl) (by rfl) (by kernel_rfl) (fun v W h => h) ?_
                intro E W ec eg ef hG hd hu R HR1
                have e8 : E (.tmp 8) = .bool true := hu 8 (by kernel_rfl)
                clear hd hu
                go_simp
                exact HR1.out _ _ (Below.refl _ _) rfl
              case s12 =>
                refine Grow.step_on (g := 10) (b := false) (d := 42) (by rfl) (by rfl) (by rfl) (by kernel_rfl) (fun v W h => h) ?_
                intro E W ec eg ef hG hd hu R HR1
                have e43 : E (.tmp 43) = .bool true := hd 11 43 (by kernel_rfl)
                clear hd hu
                go_simp
                exact HR1.out _ _ (Below.refl _ _) rfl
              case s13 =>
                refine Grow.step_in (by rfl) (by rfl) ?_
                intro E W ec eg ef hG hd hu R HR1
                have e42 : E (.tmp 42) = .bool false := hd 10 42 (by kernel_rfl)
                have e44 : E (.tmp 44) = .bool false := hd 12 44 (by kernel_rfl)
                clear hd hu
                go_simp
                exact HR1.out _ _ (Below.refl _ _) rfl
              case s14 =>
                refine Grow.step_in (by rfl) (by rfl) ?_
                intro E W ec eg ef hG hd hu R HR1
                have e45 : E (.tmp 45) = .bool false := hd 13 45 (by kernel_rfl)
                clear hd hu
                go_simp
                exact HR1.out _ _ (Below.refl _ _) rfl
              case s15 =>
                refine Grow.step_on (g := 14) (b := false) (d := 46) (by rfl) (by rfl) (by rfl) (by kernel_rfl) (fun v W h => h) ?_
                intro E W ec eg ef hG hd hu R HR1
                have e7 : E (.tmp 7) = .slice A3 n3 c3 := hu 7 (by kernel_rfl)
                clear hd hu
                go_simp
                exact HR1.out _ _ (Below.refl _ _) rfl
              case s16 =>
                refine Grow.step_on (g := 14) (b := false) (d := 46) (by rfl) (by rfl) (by rfl) (by kernel_rfl) (fun v W h => h) ?_
                intro E W ec eg ef hG hd hu R HR1
                have e47 : E (.tmp 47) = .slice A3 n3 c3 := hd 15 47 (by kernel_rfl)
                clear hd hu
                obtain ⟨k1, k2, k3, k4⟩ := HC.out W hG
                go_simp
                exact HR1.out _ _ (Below.refl _ _) rfl
              case s17 =>
                refine Grow.step_on (g := 14) (b := false) (d := 46) (by rfl) (by rfl) (by rfl) (by kernel_rfl) (fun v W h => h) ?_
                intro E W ec eg ef hG hd hu R HR1
                have e1 : E (.tmp 1) = .slice (some ⟨b, off, none⟩) n1 c := hu 1 (by kernel_rfl)
                clear hd hu
                go_simp
                exact HR1.out _ _ (Below.refl _ _) rfl
              case s18 =>
                refine Grow.step_on (g := 14) (b := false) (d := 46) (by rfl) (by rfl) (by rfl) (by kernel_rfl) (fun v W h => h) ?_
                intro E W ec eg ef hG hd hu R HR1
                have e6 : E (.tmp 6) = .int .i64 (j : Int) := hu 6 (by kernel_rfl)
                clear hd hu
                go_simp
                exact HR1.out _ _ (Below.refl _ _) rfl
              case s19 =>
                refine Grow.step_on (g := 14) (b := false) (d := 46) (by rfl) (by rfl) (by rfl) (by kernel_rfl) (fun v W h => h) ?_
                intro E W ec eg ef hG hd hu R HR1
                have e49 : E (.tmp 49) = .slice (some ⟨b, off, none⟩) n1 c := hd 17 49 (by kernel_rfl)
                have e50 : E (.tmp 50) = .int .i64 (j : Int) := hd 18 50 (by kernel_rfl)
                clear hd hu
                have hjl := HX.out.2.2.2.1
                go_simp
                first | exact HR1.out _ _ (Below.refl _ _) rfl | (rw [if_pos ⟨by omega, by omega⟩]; exact HR1.out _ _ (Below.refl _ _) rfl)
              case s20 =>
                refine Grow.step_on (g := 14) (b := false) (d := 46) (by rfl) (by rfl) (by rfl) (by kernel_rfl) (fun v W h => h) ?_
                intro E W ec eg ef hG hd hu R HR1
                have e51 : E (.tmp 51) = .pointer (some ⟨b, off + j * 3, none⟩) := hd 19 51 (by kernel_rfl)
                clear hd hu
                go_simp
                exact HR1.out _ _ (Below.refl _ _) rfl
              case s21 =>
                refine Grow.step_on (g := 14) (b := false) (d := 46) (by rfl) (by rfl) (by rfl) (by kernel_rfl) (fun v W h => h) ?_
                intro E W ec eg ef hG hd hu R HR1
                have e52 : E (.tmp 52) = .pointer (some ⟨b, off + j * 3 + 1, none⟩) := hd 20 52 (by kernel_rfl)
                clear hd hu
                obtain ⟨k1, k2, k3, k4⟩ := HC.out W hG
                go_simp
                exact HR1.out _ _ (Below.refl _ _) rfl
              case s22 =>
                refine Grow.step_on (g := 14) (b := false) (d := 46) (by rfl) (by rfl) (by rfl) (by kernel_rfl) (fun v W h => h) ?_
                intro E W ec eg ef hG hd hu R HR1
                have e48 : E (.tmp 48) = .string (st Y) := hd 16 48 (by kernel_rfl)
                have e53 : E (.tmp 53) = .string (st XV) := hd 21 53 (by kernel_rfl)
                clear hd hu
                go_simp
                exact HR1.out _ _ (Below.refl _ _) rfl
              case s23 =>
                refine Grow.step_in (by rfl) (by rfl) ?_
                intro E W ec eg ef hG hd hu R HR1
                have e46 : E (.tmp 46) = .bool false := hd 14 46 (by kernel_rfl)
                have e54 : E (.tmp 54) = .bool true := hd 22 54 (by kernel_rfl)
                clear hd hu
                go_simp
                exact HR1.out _ _ (Below.refl _ _) rfl
            case gfin =>
              intro W hG
              refine Grow.fin_dst (by rfl) ?_
              rintro _ rfl
              refine Grow.fin_dst (by rfl) ?_
              rintro _ rfl
              refine Grow.fin_dst (by rfl) ?_
              rintro _ rfl
              refine Grow.fin_dst (by rfl) ?_
              rintro _ rfl
              refine Grow.fin_dst (by rfl) ?_
              rintro _ rfl
              refine Grow.fin_dst (by rfl) ?_
              rintro _ rfl
              refine Grow.fin_dst (by rfl) ?_
              rintro _ rfl
              refine Grow.fin_dst (by rfl) ?_
              rintro _ rfl
              refine Grow.fin_dst (by rfl) ?_
              rintro _ rfl
              refine Grow.fin_dst (by rfl) ?_
              rintro _ rfl
              refine Grow.fin_dst (by rfl) ?_
              rintro _ rfl
              refine Grow.fin_dst (by rfl) ?_
              rintro _ rfl
              refine Grow.fin_dst (by rfl) ?_
              rintro _ rfl
              refine Grow.fin_dst (by rfl) ?_
              rintro _ rfl
              refine Grow.fin_dst (by rfl) ?_
              rintro _ rfl
              refine Grow.fin_dst (by rfl) ?_
              rintro _ rfl
              refine Grow.fin_dst (by rfl) ?_
              rintro _ rfl
              refine Grow.fin_dst (by rfl) ?_
              rintro _ rfl
              refine Grow.fin_dst (by rfl) ?_
              rintro _ rfl
              refine Grow.fin_dst (by rfl) ?_
              rintro _ rfl
              refine Grow.fin_dst (by rfl) ?_
              rintro _ rfl
              refine Grow.fin_dst (by rfl) ?_
              rintro _ rfl
              refine Grow.fin_dst (by rfl) ?_
              rintro _ rfl
              refine Grow.fin_dst (by rfl) ?_
              rintro _ rfl
              simp only [Act.put, List.setIfInBounds_toArray, List.set_cons_zero, List.set_cons_succ]
              refine Grow.fin_end ?_
              have HB3 := Lib.hid (HV.out.2.2.2.2 W hG)
              clear hG
              have HNE : Hid (decide (s.t = tabOf l) = false) := Lib.hid (by
                have hy := HV.out.2.2.2.1
                rw [HEQ.out.2] at hy
                exact tab_unlike HX.out.2.1 HX.out.1 (.inr (by rw [← HV.out.2.1]; intro e; exact HEV.out (by rw [hy, ← e]; rfl))))
              go_wp2_with fail
              go_ret
              exact ⟨by rw [HNE.out]; rfl, HR.out.2.1.trans (HB3.out.mono HR.out.2.1.size)⟩
        · rw [decide_eq_false he] at hbq
          have HEQ := Lib.hid he
          clear he
          refine wp_region_grow (fun W W' => Below W.heap.size W W') (Grow.nth [fun v _ => v = .slice (some ⟨q1, o1, none⟩) n1 c1, fun v _ => v = .int .i64 (j : Int), fun v _ => v = .pointer (some ⟨q1, o1 + j, none⟩), fun v _ => v = .string (st KJ), fun v _ => v = .slice (some ⟨b, off, none⟩) n1 c, fun v _ => v = .int .i64 (j : Int), fun v _ => v = .pointer (some ⟨b, off + j * 3, none⟩), fun v _ => v = .pointer (some ⟨b, off + j * 3, none⟩), fun v _ => v = .string (st XK), fun v _ => v = .bool true, fun v _ => v = .bool true, fun v _ => v = undef, fun v _ => v = undef, fun v _ => v = .bool true, fun v _ => v = .bool true, fun v _ => v = undef, fun v _ => v = undef, fun v _ => v = undef, fun v _ => v = undef, fun v _ => v = undef, fun v _ => v = undef, fun v _ => v = undef, fun v _ => v = undef, fun v _ => v = .bool true]) 56 (by kernel_rfl) (by kernel_rfl) (by rfl) (fun W => Below.refl _ W) (fun _ _ _ h1 h2 => h1.trans (h2.mono h1.size)) (Grow.mono_nth ?gmono) ?gsteps ?gfin
          case gmono => exact ⟨fun _ _ _ h _ => h, fun _ _ _ h _ => h, fun _ _ _ h _ => h, fun _ _ _ h _ => h, fun _ _ _ h _ => h, fun _ _ _ h _ => h, fun _ _ _ h _ => h, fun _ _ _ h _ => h, fun _ _ _ h _ => h, fun _ _ _ h _ => h, fun _ _ _ h _ => h, fun _ _ _ h _ => h, fun _ _ _ h _ => h, fun _ _ _ h _ => h, fun _ _ _ h _ => h, fun _ _ _ h _ => h, fun _ _ _ h _ => h, fun _ _ _ h _ => h, fun _ _ _ h _ => h, fun _ _ _ h _ => h, fun _ _ _ h _ => h, fun _ _ _ h _ => h, fun _ _ _ h _ => h, fun _ _ _ h _ => h, trivial⟩
          case gsteps =>
            show Grow.allBelow _ 24
            refine And.intro ?_ ?s23
            refine And.intro ?_ ?s22
            refine And.intro ?_ ?s21
            refine And.intro ?_ ?s20
            refine And.intro ?_ ?s19
            refine And.intro ?_ ?s18
            refine And.intro ?_ ?s17
            refine And.intro ?_ ?s16
            refine And.intro ?_ ?s15
            refine And.intro ?_ ?s14
            refine And.intro ?_ ?s13
            refine And.intro ?_ ?s12
            refine And.intro ?_ ?s11
            refine And.intro ?_ ?s10
            refine And.intro ?_ ?s9
            refine And.intro ?_ ?s8
            refine And.intro ?_ ?s7
            refine And.intro ?_ ?s6
            refine And.intro ?_ ?s5
            refine And.intro ?_ ?s4
            refine And.intro ?_ ?s3
            refine And.intro ?_ ?s2
            refine And.intro ?_ ?s1
            refine And.intro ?_ ?s0
            exact trivial
            case s0 =>
              refine Grow.step_in (by rfl) (by rfl) ?_
              intro E W ec eg ef hG hd hu R HR1
              have e5 : E (.tmp 5) = .slice (some ⟨q1, o1, none⟩) n1 c1 := hu 5 (by kernel_rfl)
              clear hd hu
              go_simp
              exact HR1.out _ _ (Below.refl _ _) rfl
            case s1 =>
              refine Grow.step_in (by rfl) (by rfl) ?_
              intro E W ec eg ef hG hd hu R HR1
              have e6 : E (.tmp 6) = .int .i64 (j : Int) := hu 6 (by kernel_rfl)
              clear hd hu
              go_simp
              exact HR1.out _ _ (Below.refl _ _) rfl
            case s2 =>
              refine Grow.step_in (by rfl) (by rfl) ?_
              intro E W ec eg ef hG hd hu R HR1
              have e32 : E (.tmp 32) = .slice (some ⟨q1, o1, none⟩) n1 c1 := hd 0 32 (by kernel_rfl)
              have e33 : E (.tmp 33) = .int .i64 (j : Int) := hd 1 33 (by kernel_rfl)
              clear hd hu
              have hjl := HX.out.2.2.2.1
              go_simp
              first | exact HR1.out _ _ (Below.refl _ _) rfl | (rw [if_pos ⟨by omega, by omega⟩]; exact HR1.out _ _ (Below.refl _ _) rfl)
            case s3 =>
              refine Grow.step_in (by rfl) (by rfl) ?_
              intro E W ec eg ef hG hd hu R HR1
              have e34 : E (.tmp 34) = .pointer (some ⟨q1, o1 + j, none⟩) := hd 2 34 (by kernel_rfl)
              clear hd hu
              obtain ⟨k1, k2, k3, k4⟩ := HC.out W hG
              go_simp
              exact HR1.out _ _ (Below.refl _ _) rfl
            case s4 =>
              refine Grow.step_in (by rfl) (by rfl) ?_
              intro E W ec eg ef hG hd hu R HR1
              have e1 : E (.tmp 1) = .slice (some ⟨b, off, none⟩) n1 c := hu 1 (by kernel_rfl)
              clear hd hu
              go_simp
              exact HR1.out _ _ (Below.refl _ _) rfl
            case s5 =>
              refine Grow.step_in (by rfl) (by rfl) ?_
              intro E W ec eg ef hG hd hu R HR1
              have e6 : E (.tmp 6) = .int .i64 (j : Int) := hu 6 (by kernel_rfl)
              clear hd hu
              go_simp
              exact HR1.out _ _ (Below.refl _ _) rfl
            case s6 =>
              refine Grow.step_in (by rfl) (by rfl) ?_
              intro E W ec eg ef hG hd hu R HR1
              have e36 : E (.tmp 36) = .slice (some ⟨b, off, none⟩) n1 c := hd 4 36 (by kernel_rfl)
              have e37 : E (.tmp 37) = .int .i64 (j : Int) := hd 5 37 (by kernel_rfl)
              clear hd hu
              have hjl := HX.out.2.2.2.1
              go_simp
              first | exact HR1.out _ _ (Below.refl _ _) rfl | (rw [if_pos ⟨by omega, by omega⟩]; exact HR1.out _ _ (Below.refl _ _) rfl)
            case s7 =>
              refine Grow.step_in (by rfl) (by rfl) ?_
              intro E W ec eg ef hG hd hu R HR1
              have e38 : E (.tmp 38) = .pointer (some ⟨b, off + j * 3, none⟩) := hd 6 38 (by kernel_rfl)
              clear hd hu
              go_simp
              exact HR1.out _ _ (Below.refl _ _) rfl
            case s8 =>
              refine Grow.step_in (by rfl) (by rfl) ?_
              intro E W ec eg ef hG hd hu R HR1
              have e39 : E (.tmp 39) = .pointer (some ⟨b, off + j * 3, none⟩) := hd 7 39 (by kernel_rfl)
              clear hd hu
              obtain ⟨k1, k2, k3, k4⟩ := HC.out W hG
              go_simp
              exact HR1.out _ _ (Below.refl _ _) rfl
            case s9 =>
              refine Grow.step_in (by rfl) (by rfl) ?_
              intro E W ec eg ef hG hd hu R HR1
              have e35 : E (.tmp 35) = .string (st KJ) := hd 3 35 (by kernel_rfl)
              have e40 : E (.tmp 40) = .string (st XK) := hd 8 40 (by kernel_rfl)
              clear hd hu
              go_simp
              exact HR1.out _ _ (Below.refl _ _) rfl
            case s10 =>
              refine Grow.step_in (by rfl) (by rfl) ?_
              intro E W ec eg ef hG hd hu R HR1
              have e41 : E (.tmp 41) = .bool true := hd 9 41 (by kernel_rfl)
              clear hd hu
              go_simp
              exact HR1.out _ _ (Below.refl _ _) rfl
            case s11 =>
              exact Grow.step_off (g := 10) (b := false) (b' := true) (d := 42) (by rfl) (by rfl) (by rfl) (by kernel_rfl) (fun v W h => h) (by decide) (fun _ => rfl)
            case s12 =>
              exact Grow.step_off (g := 10) (b := false) (b' := true) (d := 42) (by rfl) (by rfl) (by rfl) (by kernel_rfl) (fun v W h => h) (by decide) (fun _ => rfl)
            case s13 =>
              refine Grow.step_in (by rfl) (by rfl) ?_
              intro E W ec eg ef hG hd hu R HR1
              have e42 : E (.tmp 42) = .bool true := hd 10 42 (by kernel_rfl)
              have e44 : E (.tmp 44) = undef := hd 12 44 (by kernel_rfl)
              clear hd hu
              go_simp
              exact HR1.out _ _ (Below.refl _ _) rfl
            case s14 =>
              refine Grow.step_in (by rfl) (by rfl) ?_
              intro E W ec eg ef hG hd hu R HR1
              have e45 : E (.tmp 45) = .bool true := hd 13 45 (by kernel_rfl)
              clear hd hu
              go_simp
              exact HR1.out _ _ (Below.refl _ _) rfl
            case s15 =>
              exact Grow.step_off (g := 14) (b := false) (b' := true) (d := 46) (by rfl) (by rfl) (by rfl) (by kernel_rfl) (fun v W h => h) (by decide) (fun _ => rfl)
            case s16 =>
              exact Grow.step_off (g := 14) (b := false) (b' := true) (d := 46) (by rfl) (by rfl) (by rfl) (by kernel_rfl) (fun v W h => h) (by decide) (fun _ => rfl)
            case s17 =>
              exact Grow.step_off (g := 14) (b := false) (b' := true) (d := 46) (by rfl) (by rfl) (by rfl) (by kernel_rfl) (fun v W h => h) (by decide) (fun _ => rfl)
            case s18 =>
              exact Grow.step_off (g := 14) (b := false) (b' := true) (d := 46) (by rfl) (by rfl) (by rfl) (by kernel_rfl) (fun v W h => h) (by decide) (fun _ => rfl)
            case s19 =>
              exact Grow.step_off (g := 14) (b := false) (b' := true) (d := 46) (by rfl) (by rfl) (by rfl) (by kernel_rfl) (fun v W h => h) (by decide) (fun _ => rfl)
            case s20 =>
              exact Grow.step_off (g := 14) (b := false) (b' := true) (d := 46) (by rfl) (by rfl) (by rfl) (by kernel_rfl) (fun v W h => h) (by decide) (fun _ => rfl)
            case s21 =>
              exact Grow.step_off (g := 14) (b := false) (b' := true) (d := 46) (by rfl) (by rfl) (by rfl) (by kernel_rfl) (fun v W h => h) (by decide) (fun _ => rfl)
            case s22 =>
              exact Grow.step_off (g := 14) (b := false) (b' := true) (d := 46) (by rfl) (by rfl) (by rfl) (by kernel_rfl) (fun v W h => h) (by decide) (fun _ => rfl)
            case s23 =>
              refine Grow.step_in (by rfl) (by rfl) ?_
              intro E W ec eg ef hG hd hu R HR1
              have e46 : E (.tmp 46) = .bool true := hd 14 46 (by kernel_rfl)
              have e54 : E (.tmp 54) = undef := hd 22 54 (by kernel_rfl)
              clear hd hu
              go_simp
              exact HR1.out _ _ (Below.refl _ _) rfl
          case gfin =>
            intro W hG
            refine Grow.fin_dst (by rfl) ?_
            rintro _ rfl
            refine Grow.fin_dst (by rfl) ?_
            rintro _ rfl
            refine Grow.fin_dst (by rfl) ?_
            rintro _ rfl
            refine Grow.fin_dst (by rfl) ?_
            rintro _ rfl
            refine Grow.fin_dst (by rfl) ?_
            rintro _ rfl
            refine Grow.fin_dst (by rfl) ?_
            rintro _ rfl
            refine Grow.fin_dst (by rfl) ?_
            rintro _ rfl
            refine Grow.fin_dst (by rfl) ?_
            rintro _ rfl
            refine Grow.fin_dst (by rfl) ?_
            rintro _ rfl
            refine Grow.fin_dst (by rfl) ?_
            rintro _ rfl
            refine Grow.fin_dst (by rfl) ?_
            rintro _ rfl
            refine Grow.fin_dst (by rfl) ?_
            rintro _ rfl
            refine Grow.fin_dst (by rfl) ?_
            rintro _ rfl
            refine Grow.fin_dst (by rfl) ?_
            rintro _ rfl
            refine Grow.fin_dst (by rfl) ?_
            rintro _ rfl
            refine Grow.fin_dst (by rfl) ?_
            rintro _ rfl
            refine Grow.fin_dst (by rfl) ?_
            rintro _ rfl
            refine Grow.fin_dst (by rfl) ?_
            rintro _ rfl
            refine Grow.fin_dst (by rfl) ?_
            rintro _ rfl
            refine Grow.fin_dst (by rfl) ?_
            rintro _ rfl
            refine Grow.fin_dst (by rfl) ?_
            rintro _ rfl
            refine Grow.fin_dst (by rfl) ?_
            rintro _ rfl
            refine Grow.fin_dst (by rfl) ?_
            rintro _ rfl
            refine Grow.fin_dst (by rfl) ?_
            rintro _ rfl
            simp only [Act.put, List.setIfInBounds_toArray, List.set_cons_zero, List.set_cons_succ]
            refine Grow.fin_end ?_
            have HB3 := Lib.hid (HV.out.2.2.2.2 W hG)
            clear hG
            have HNE : Hid (decide (s.t = tabOf l) = false) := Lib.hid (tab_unlike HX.out.2.1 HX.out.1 (.inl (by rw [← HV.out.1, ← HV.out.2.2.1]; exact HEQ.out)))
            go_wp2_with fail
            go_ret
            exact ⟨by rw [HNE.out]; rfl, HR.out.2.1.trans (HB3.out.mono HR.out.2.1.size)⟩
      · have hlt' : ¬ (j : Int) < (n1 : Int) := by omega
        have HE : Hid (decide (s.t = tabOf l) = true) := Lib.hid (decide_eq_true (by
          have h1 := htk
          have h2 := HNN.out
          have h3 := HS.out.2.2.1
          rwa [List.take_of_length_le (by omega), List.take_of_length_le (by unfold tabOf; rw [List.length_map]; omega)] at h1))
        have HB := Lib.hid (H1.out.2.trans (hbr.mono H1.out.2.size))
        clear hlt htk hj hbr
        go_wp2_with fail
        go_ret
        exact ⟨by rw [HE.out]; rfl, HB.out⟩
  · have HNE : Hid (decide (s.t = tabOf l) = false) := Lib.hid (decide_eq_false fun e => hnn (by rw [e, ← HS.out.2.2.1]; unfold tabOf; rw [List.length_map]))
    go_enter Tryz.func21, Tryz.ntmps21
    go_upto_region 2 with (go_at_call 26; refine hks.mono ?_; clear hks; rintro _ w1 ⟨A1, n1, c1, rfl, hs1, hb1⟩)
    obtain rfl : n1 = s.t.length := by rw [← hs1.len]; simp
    have hne : ((s.t.length : Int) != (n : Int)) = true := by simp; omega
    have H1 := Lib.hid hb1
    clear hs1 hb1 hnn
    go_wp2_with fail
    go_ret
    exact ⟨by rw [HNE.out]; rfl, H1.out⟩
end Go.Proofs.YtcgnaomffioldaaGreat
