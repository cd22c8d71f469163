/-
  like: is a disk as the document's?
-/
import Derived.Test.YtkhbmgmppoepjaaBlkDisk
namespace Go.Proofs.Ytkhbmgmppoepjaa
open Go.RowKit

def RLk (w0 : World) (A : Option Addr) (n c : Nat) (d : DM) (i : Value) (wr : World) : Prop :=
  ∃ i' : Nat, i' ≤ n ∧ i = .int .i64 (i' : Int) ∧ Below w0.heap.size w0 wr ∧ wr.heap[w0.heap.size]? = some (.cells (dmV d A n c) 31 (0, 0))
set_option maxHeartbeats 4000000 in
set_option maxRecDepth 100000 in
theorem like_any {w : World} {S T : Nat → Prop} {g : Nat} {d : DM} (h : Dk w S g d) {A : Option Addr} {n c : Nat} (hs : Strs w T A n c d.l) :
    Calls Try.prog 24 #[.pointer (some ⟨g, 0, none⟩), .agg (dmV d A n c)] w fun e w' => e = .returned (.bool true) ∧ Below w.heap.size w w' := by
  have hb0 : Below w.heap.size w (w.alloc (.cells (dmV d A n c) 31)) := (Below.refl _ _).alloc (Nat.le_refl _) _
  have hx0 := heap_alloc_new w (.cells (dmV d A n c) 31)
  have hln := hs.len
  have H := Lib.hid (And.intro h (And.intro hs (And.intro hb0 hx0)))
  have HFW := Lib.hid h.few
  clear h hs hb0 hx0
  obtain ⟨l, left, torn, down⟩ := d
  simp only at hln
  have HC1 : Hid (∀ W, Below (w.alloc (.cells (dmV ⟨l, left, torn, down⟩ A n c) 31)).drew.heap.size (w.alloc (.cells (dmV ⟨l, left, torn, down⟩ A n c) 31)).drew W → W.cell? ⟨w.heap.size, 0, none⟩ = some (.slice A n c) ∧ W.cell? ⟨w.heap.size, 3, none⟩ = some (.bool down) ∧ Dk W S g ⟨l, left, torn, down⟩) := Lib.hid fun W hW => by
    have hW2 := Grow.below_of_drew hW
    have hx := (hW2.block _ (lt_of_cells H.out.2.2.2)).trans H.out.2.2.2
    exact ⟨cell_of_cells hx 0, cell_of_cells hx 3, H.out.1.below (H.out.2.2.1.trans (hW2.mono H.out.2.2.1.size))⟩
  have HLN := Lib.hid hln
  clear hln
  go_enter Try.func24, Try.ntmps24
  unfold dmV at *
  go_wp2_with fail
  refine wp_region_grow (fun W W' => Below W.heap.size W W') (Grow.nth [fun v _ => v = .pointer (some ⟨g, 0, none⟩), fun v _ => v = .int .i64 (n : Int), fun v _ => v = .pointer (some ⟨w.heap.size, 0, none⟩), fun v _ => v = .slice A n c, fun v _ => v = .int .i64 (n : Int), fun v _ => v = .bool false, fun v _ => v = .bool false, fun v _ => v = .pointer (some ⟨g, 0, none⟩), fun v _ => v = .bool down, fun v _ => v = .pointer (some ⟨w.heap.size, 3, none⟩), fun v _ => v = .bool down, fun v _ => v = .bool false, fun v _ => v = .bool false]) 51 (by kernel_rfl) (by kernel_rfl) (by rfl) (fun W => Below.refl _ W) (fun _ _ _ h1 h2 => h1.trans (h2.mono h1.size)) (Grow.mono_nth ?gmono) ?gsteps ?gfin
  case gmono => exact ⟨fun _ _ _ h _ => h, fun _ _ _ h _ => h, fun _ _ _ h _ => h, fun _ _ _ h _ => h, fun _ _ _ h _ => h, fun _ _ _ h _ => h, fun _ _ _ h _ => h, fun _ _ _ h _ => h, fun _ _ _ h _ => h, fun _ _ _ h _ => h, fun _ _ _ h _ => h, fun _ _ _ h _ => h, fun _ _ _ h _ => h, trivial⟩
  case gsteps =>
    show Grow.allBelow _ 13
    refine And.intro ?_ ?s12
    refine And.intro ?_ ?s11
    refine And.intro ?_ ?s10
    refine And.intro ?_ ?s9
    refine And.intro ?_ ?s8
    refine And.intro ?_ ?s7
    refine And.intro ?_ ?s6
    refine And.intro ?_ ?s5
    refine And.intro ?_ ?s4
    refine And.intro ?_ ?s3
    refine And.intro ?_ ?s2
    refine And.intro ?_ ?s1
    refine And.intro ?_ ?s0
    exact trivial
    case s0 =>
      refine Grow.step_in (by rfl) (by rfl) ?_
      intro E W ec eg ef hG hd hu R HR1
      have e0 : E (.tmp 0) = .pointer (some ⟨g, 0, none⟩) := hu 0 (by kernel_rfl)
      clear hd hu
      go_simp
      exact HR1.out _ _ (Below.refl _ _) rfl
    case s1 =>
      refine Grow.step_in (by rfl) (by rfl) ?_
      intro E W ec eg ef hG hd hu R HR1
      have e8 : E (.tmp 8) = .pointer (some ⟨g, 0, none⟩) := hd 0 8 (by kernel_rfl)
      clear hd hu
      obtain ⟨k1, k2, k3⟩ := HC1.out W hG
      go_simp
      refine (blen_any k3).mono ?_
      rintro _ _ ⟨rfl, rfl⟩
      exact ⟨_, rfl, HR1.out _ _ (Below.refl _ _) (show Value.int .i64 (l.length : Int) = _ by rw [HLN.out])⟩
    case s2 =>
      refine Grow.step_in (by rfl) (by rfl) ?_
      intro E W ec eg ef hG hd hu R HR1
      have e3 : E (.tmp 3) = .pointer (some ⟨w.heap.size, 0, none⟩) := hu 3 (by kernel_rfl)
      clear hd hu
      go_simp
      exact HR1.out _ _ (Below.refl _ _) rfl
    case s3 =>
      refine Grow.step_in (by rfl) (by rfl) ?_
      intro E W ec eg ef hG hd hu R HR1
      have e10 : E (.tmp 10) = .pointer (some ⟨w.heap.size, 0, none⟩) := hd 2 10 (by kernel_rfl)
      clear hd hu
      obtain ⟨k1, k2, k3⟩ := HC1.out W hG
      go_simp
      exact HR1.out _ _ (Below.refl _ _) rfl
    case s4 =>
      refine Grow.step_in (by rfl) (by rfl) ?_
      intro E W ec eg ef hG hd hu R HR1
      have e11 : E (.tmp 11) = .slice A n c := hd 3 11 (by kernel_rfl)
      clear hd hu
      go_simp
      exact HR1.out _ _ (Below.refl _ _) rfl
    case s5 =>
      refine Grow.step_in (by rfl) (by rfl) ?_
      intro E W ec eg ef hG hd hu R HR1
      have e9 : E (.tmp 9) = .int .i64 (n : Int) := hd 1 9 (by kernel_rfl)
      have e12 : E (.tmp 12) = .int .i64 (n : Int) := hd 4 12 (by kernel_rfl)
      clear hd hu
      go_simp
      exact HR1.out _ _ (Below.refl _ _) rfl
    case s6 =>
      refine Grow.step_in (by rfl) (by rfl) ?_
      intro E W ec eg ef hG hd hu R HR1
      have e13 : E (.tmp 13) = .bool false := hd 5 13 (by kernel_rfl)
      clear hd hu
      go_simp
      exact HR1.out _ _ (Below.refl _ _) rfl
    case s7 =>
      refine Grow.step_on (g := 6) (b := false) (d := 14) (by rfl) (by rfl) (by rfl) (by kernel_rfl) (fun v W h => h) ?_
      intro E W ec eg ef hG hd hu R HR1
      have e0 : E (.tmp 0) = .pointer (some ⟨g, 0, none⟩) := hu 0 (by kernel_rfl)
      clear hd hu
      go_simp
      exact HR1.out _ _ (Below.refl _ _) rfl
    case s8 =>
      refine Grow.step_on (g := 6) (b := false) (d := 14) (by rfl) (by rfl) (by rfl) (by kernel_rfl) (fun v W h => h) ?_
      intro E W ec eg ef hG hd hu R HR1
      have e15 : E (.tmp 15) = .pointer (some ⟨g, 0, none⟩) := hd 7 15 (by kernel_rfl)
      clear hd hu
      obtain ⟨k1, k2, k3⟩ := HC1.out W hG
      go_simp
      refine (bdown_any k3).mono ?_
      rintro _ _ ⟨rfl, rfl⟩
      exact ⟨_, rfl, HR1.out _ _ (Below.refl _ _) rfl⟩
    case s9 =>
      refine Grow.step_on (g := 6) (b := false) (d := 14) (by rfl) (by rfl) (by rfl) (by kernel_rfl) (fun v W h => h) ?_
      intro E W ec eg ef hG hd hu R HR1
      have e3 : E (.tmp 3) = .pointer (some ⟨w.heap.size, 0, none⟩) := hu 3 (by kernel_rfl)
      clear hd hu
      go_simp
      exact HR1.out _ _ (Below.refl _ _) rfl
    case s10 =>
      refine Grow.step_on (g := 6) (b := false) (d := 14) (by rfl) (by rfl) (by rfl) (by kernel_rfl) (fun v W h => h) ?_
      intro E W ec eg ef hG hd hu R HR1
      have e17 : E (.tmp 17) = .pointer (some ⟨w.heap.size, 3, none⟩) := hd 9 17 (by kernel_rfl)
      clear hd hu
      obtain ⟨k1, k2, k3⟩ := HC1.out W hG
      go_simp
      exact HR1.out _ _ (Below.refl _ _) rfl
    case s11 =>
      refine Grow.step_on (g := 6) (b := false) (d := 14) (by rfl) (by rfl) (by rfl) (by kernel_rfl) (fun v W h => h) ?_
      intro E W ec eg ef hG hd hu R HR1
      have e16 : E (.tmp 16) = .bool down := hd 8 16 (by kernel_rfl)
      have e18 : E (.tmp 18) = .bool down := hd 10 18 (by kernel_rfl)
      clear hd hu
      go_simp
      exact HR1.out _ _ (Below.refl _ _) rfl
    case s12 =>
      refine Grow.step_in (by rfl) (by rfl) ?_
      intro E W ec eg ef hG hd hu R HR1
      have e14 : E (.tmp 14) = .bool false := hd 6 14 (by kernel_rfl)
      have e19 : E (.tmp 19) = .bool false := hd 11 19 (by kernel_rfl)
      clear hd hu
      go_simp
      exact HR1.out _ _ (Below.refl _ _) rfl
  case gfin =>
    intro W hG
    refine Grow.fin_dst (by rfl) ?_
    rintro _ rfl
    refine Grow.fin_dst (by rfl) ?_
    rintro _ rfl
    refine Grow.fin_dst (by rfl) ?_
    rintro _ rfl
    refine Grow.fin_dst (by rfl) ?_
    rintro _ rfl
    refine Grow.fin_dst (by rfl) ?_
    rintro _ rfl
    refine Grow.fin_dst (by rfl) ?_
    rintro _ rfl
    refine Grow.fin_dst (by rfl) ?_
    rintro _ rfl
    refine Grow.fin_dst (by rfl) ?_
    rintro _ rfl
    refine Grow.fin_dst (by rfl) ?_
    rintro _ rfl
    refine Grow.fin_dst (by rfl) ?_
    rintro _ rfl
    refine Grow.fin_dst (by rfl) ?_
    rintro _ rfl
    refine Grow.fin_dst (by rfl) ?_
    rintro _ rfl
    refine Grow.fin_dst (by rfl) ?_
    rintro _ rfl
    simp only [Act.put, List.setIfInBounds_toArray, List.set_cons_zero, List.set_cons_succ]
    refine Grow.fin_end ?_
    have hbw := H.out.2.2.1.trans ((Grow.below_of_drew hG).mono H.out.2.2.1.size)
    have hxw := ((Grow.below_of_drew hG).block _ (lt_of_cells H.out.2.2.2)).trans H.out.2.2.2
    have H1 := Lib.hid (And.intro hbw hxw)
    clear hbw hxw hG HC1
    go_wp2_with fail
    go_loopw [5] (fun i wr => RLk w A n c ⟨l, left, torn, down⟩ i wr) (fun i _ => n - (intOf i).toNat)
    case atStart => exact ⟨0, Nat.zero_le _, rfl, H1.out.1, H1.out.2⟩
    case round =>
      obtain ⟨i', hi', rfl, hbr, hxr⟩ := hrel
      unfold dmV at *
      have hc0 : wr.cell? ⟨w.heap.size, 0, none⟩ = some (.slice A n c) := cell_of_cells hxr 0
      have hc3 : wr.cell? ⟨w.heap.size, 3, none⟩ = some (.bool down) := cell_of_cells hxr 3
      have HR := Lib.hid (And.intro hbr (And.intro hxr hi'))
      clear hbr hxr hi'
      by_cases hlt : i' < n
      · have hlt' : (i' : Int) < (n : Int) := by omega
        cases down with
        | true =>
          go_wp2_with fail
          go_ret
          exact ⟨rfl, HR.out.1⟩
        | false =>
          have hrd := bread_any (H.out.1.below HR.out.1) (i' : Int)
          have hrm : readM ⟨l, left, torn, false⟩ (i' : Int) = (l[i']?.getD [], 0) := by simp [readM, HLN.out, hlt]
          rw [hrm] at hrd
          have hadd := IntWalk.i64_in ((i' : Int) + 1) (by have h1 := HFW.out; have h2 := HLN.out; omega)
          obtain ⟨q, o, rfl, _, _, hst⟩ := (H.out.2.1.below HR.out.1).row (by omega)
          have hsc := hst i' hlt
          have HSC := Lib.hid hsc
          clear hst hrm hsc
          go_upto_region 7 with (go_at_call 49; refine hrd.mono ?_; clear hrd; rintro _ w2 ⟨A2, n2, c2, rfl, hy, hb2, _⟩)
          have HC : Hid (∀ W, Below w2.drew.heap.size w2.drew W → W.cell? ⟨w.heap.size, 0, none⟩ = some (.slice (some ⟨q, o, none⟩) n c) ∧ W.cell? ⟨q, o + i', none⟩ = some (.string (st (l[i']?.getD []))) ∧ (convert 41 9 (.slice A2 n2 c2)).run Try.prog W = .ok (.string (st (l[i']?.getD []))) W) := Lib.hid fun W hW => by
            have hW2 : Below wr.heap.size wr W := hb2.trans ((Grow.below_of_drew hW).mono hb2.size)
            have hx := (hW2.block _ (lt_of_cells HR.out.2.1)).trans HR.out.2.1
            exact ⟨cell_of_cells hx 0, (hW2.cell (p := ⟨_, _, none⟩) (World.block_lt_of_cell? _ _ HSC.out)).trans HSC.out, byt_string (hy.below (Grow.below_of_drew hW))⟩
          have H2 : Hid (Below w.heap.size w w2 ∧ w2.heap[w.heap.size]? = some (.cells #[.slice (some ⟨q, o, none⟩) n c, .int .i64 left, .int .i64 torn, .bool false] 31 (0, 0))) := Lib.hid ⟨HR.out.1.trans (hb2.mono HR.out.1.size), (hb2.block _ (lt_of_cells HR.out.2.1)).trans HR.out.2.1⟩
          clear hy hb2 hc0 hc3
          generalize l[i']?.getD [] = PC at HC
          refine wp_region_grow (fun W W' => Below W.heap.size W W') (Grow.nth [fun v _ => v = .int .i64 0, fun v _ => v = .bool false, fun v _ => v = .bool false, fun v _ => v = .slice A2 n2 c2, fun v _ => v = .string (st PC), fun v _ => v = .pointer (some ⟨w.heap.size, 0, none⟩), fun v _ => v = .slice (some ⟨q, o, none⟩) n c, fun v _ => v = .int .i64 (i' : Int), fun v _ => v = .pointer (some ⟨q, o + i', none⟩), fun v _ => v = .string (st PC), fun v _ => v = .bool false, fun v _ => v = .bool false]) 51 (by kernel_rfl) (by kernel_rfl) (by rfl) (fun W => Below.refl _ W) (fun _ _ _ h1 h2 => h1.trans (h2.mono h1.size)) (Grow.mono_nth ?gmono) ?gsteps ?gfin
          case gmono => exact ⟨fun _ _ _ h _ => h, fun _ _ _ h _ => h, fun _ _ _ h _ => h, fun _ _ _ h _ => h, fun _ _ _ h _ => h, fun _ _ _ h _ => h, fun _ _ _ h _ => h, fun _ _ _ h _ => h, fun _ _ _ h _ => h, fun _ _ _ h _ => h, fun _ _ _ h _ => h, fun _ _ _ h _ => h, trivial⟩
          case gsteps =>
            show Grow.allBelow _ 12
            refine And.intro ?_ ?s11
            refine And.intro ?_ ?s10
            refine And.intro ?_ ?s9
            refine And.intro ?_ ?s8
            refine And.intro ?_ ?s7
            refine And.intro ?_ ?s6
            refine And.intro ?_ ?s5
            refine And.intro ?_ ?s4
            refine And.intro ?_ ?s3
            refine And.intro ?_ ?s2
            refine And.intro ?_ ?s1
            refine And.intro ?_ ?s0
            exact trivial
            case s0 =>
              refine Grow.step_in (by rfl) (by rfl) ?_
              intro E W ec eg ef hG hd hu R HR1
              have e7 : E (.tmp 7) = .int .i64 0 := hu 7 (by kernel_rfl)
              clear hd hu
              go_simp
              exact HR1.out _ _ (Below.refl _ _) rfl
            case s1 =>
              refine Grow.step_in (by rfl) (by rfl) ?_
              intro E W ec eg ef hG hd hu R HR1
              have e39 : E (.tmp 39) = .int .i64 0 := hd 0 39 (by kernel_rfl)
              clear hd hu
              go_simp
              exact HR1.out _ _ (Below.refl _ _) rfl
            case s2 =>
              refine Grow.step_in (by rfl) (by rfl) ?_
              intro E W ec eg ef hG hd hu R HR1
              have e40 : E (.tmp 40) = .bool false := hd 1 40 (by kernel_rfl)
              clear hd hu
              go_simp
              exact HR1.out _ _ (Below.refl _ _) rfl
            case s3 =>
              refine Grow.step_on (g := 2) (b := false) (d := 41) (by rfl) (by rfl) (by rfl) (by kernel_rfl) (fun v W h => h) ?_
              intro E W ec eg ef hG hd hu R HR1
              have e6 : E (.tmp 6) = .slice A2 n2 c2 := hu 6 (by kernel_rfl)
              clear hd hu
              go_simp
              exact HR1.out _ _ (Below.refl _ _) rfl
            case s4 =>
              refine Grow.step_on (g := 2) (b := false) (d := 41) (by rfl) (by rfl) (by rfl) (by kernel_rfl) (fun v W h => h) ?_
              intro E W ec eg ef hG hd hu R HR1
              have e42 : E (.tmp 42) = .slice A2 n2 c2 := hd 3 42 (by kernel_rfl)
              clear hd hu
              obtain ⟨k1, k2, k3⟩ := HC.out W hG
              go_simp
              exact HR1.out _ _ (Below.refl _ _) rfl
            case s5 =>
              refine Grow.step_on (g := 2) (b := false) (d := 41) (by rfl) (by rfl) (by rfl) (by kernel_rfl) (fun v W h => h) ?_
              intro E W ec eg ef hG hd hu R HR1
              have e3 : E (.tmp 3) = .pointer (some ⟨w.heap.size, 0, none⟩) := hu 3 (by kernel_rfl)
              clear hd hu
              go_simp
              exact HR1.out _ _ (Below.refl _ _) rfl
            case s6 =>
              refine Grow.step_on (g := 2) (b := false) (d := 41) (by rfl) (by rfl) (by rfl) (by kernel_rfl) (fun v W h => h) ?_
              intro E W ec eg ef hG hd hu R HR1
              have e44 : E (.tmp 44) = .pointer (some ⟨w.heap.size, 0, none⟩) := hd 5 44 (by kernel_rfl)
              clear hd hu
              obtain ⟨k1, k2, k3⟩ := HC.out W hG
              go_simp
              exact HR1.out _ _ (Below.refl _ _) rfl
            case s7 =>
              refine Grow.step_on (g := 2) (b := false) (d := 41) (by rfl) (by rfl) (by rfl) (by kernel_rfl) (fun v W h => h) ?_
              intro E W ec eg ef hG hd hu R HR1
              have e5 : E (.tmp 5) = .int .i64 (i' : Int) := hu 5 (by kernel_rfl)
              clear hd hu
              go_simp
              exact HR1.out _ _ (Below.refl _ _) rfl
            case s8 =>
              refine Grow.step_on (g := 2) (b := false) (d := 41) (by rfl) (by rfl) (by rfl) (by kernel_rfl) (fun v W h => h) ?_
              intro E W ec eg ef hG hd hu R HR1
              have e45 : E (.tmp 45) = .slice (some ⟨q, o, none⟩) n c := hd 6 45 (by kernel_rfl)
              have e46 : E (.tmp 46) = .int .i64 (i' : Int) := hd 7 46 (by kernel_rfl)
              clear hd hu
              go_simp
              first | exact HR1.out _ _ (Below.refl _ _) rfl | (rw [if_pos ⟨by omega, by omega⟩]; exact HR1.out _ _ (Below.refl _ _) rfl) | (rw [if_pos (by omega)]; exact HR1.out _ _ (Below.refl _ _) rfl)
            case s9 =>
              refine Grow.step_on (g := 2) (b := false) (d := 41) (by rfl) (by rfl) (by rfl) (by kernel_rfl) (fun v W h => h) ?_
              intro E W ec eg ef hG hd hu R HR1
              have e47 : E (.tmp 47) = .pointer (some ⟨q, o + i', none⟩) := hd 8 47 (by kernel_rfl)
              clear hd hu
              obtain ⟨k1, k2, k3⟩ := HC.out W hG
              go_simp
              exact HR1.out _ _ (Below.refl _ _) rfl
            case s10 =>
              refine Grow.step_on (g := 2) (b := false) (d := 41) (by rfl) (by rfl) (by rfl) (by kernel_rfl) (fun v W h => h) ?_
              intro E W ec eg ef hG hd hu R HR1
              have e43 : E (.tmp 43) = .string (st PC) := hd 4 43 (by kernel_rfl)
              have e48 : E (.tmp 48) = .string (st PC) := hd 9 48 (by kernel_rfl)
              clear hd hu
              go_simp
              exact HR1.out _ _ (Below.refl _ _) rfl
            case s11 =>
              refine Grow.step_in (by rfl) (by rfl) ?_
              intro E W ec eg ef hG hd hu R HR1
              have e41 : E (.tmp 41) = .bool false := hd 2 41 (by kernel_rfl)
              have e49 : E (.tmp 49) = .bool false := hd 10 49 (by kernel_rfl)
              clear hd hu
              go_simp
              exact HR1.out _ _ (Below.refl _ _) rfl
          case gfin =>
            intro W hG
            refine Grow.fin_dst (by rfl) ?_
            rintro _ rfl
            refine Grow.fin_dst (by rfl) ?_
            rintro _ rfl
            refine Grow.fin_dst (by rfl) ?_
            rintro _ rfl
            refine Grow.fin_dst (by rfl) ?_
            rintro _ rfl
            refine Grow.fin_dst (by rfl) ?_
            rintro _ rfl
            refine Grow.fin_dst (by rfl) ?_
            rintro _ rfl
            refine Grow.fin_dst (by rfl) ?_
            rintro _ rfl
            refine Grow.fin_dst (by rfl) ?_
            rintro _ rfl
            refine Grow.fin_dst (by rfl) ?_
            rintro _ rfl
            refine Grow.fin_dst (by rfl) ?_
            rintro _ rfl
            refine Grow.fin_dst (by rfl) ?_
            rintro _ rfl
            refine Grow.fin_dst (by rfl) ?_
            rintro _ rfl
            simp only [Act.put, List.setIfInBounds_toArray, List.set_cons_zero, List.set_cons_succ]
            refine Grow.fin_end ?_
            have HB3 := Lib.hid (Grow.below_of_drew hG)
            clear hG
            go_wp2_with fail
            go_roundw
            case rel => unfold RLk; exact ⟨i' + 1, by omega, by simp, H2.out.1.trans (HB3.out.mono H2.out.1.size), (HB3.out.block _ (lt_of_cells H2.out.2)).trans H2.out.2⟩
            case measure => simp only [intOf]; omega
      · have hlt' : ¬ (i' : Int) < (n : Int) := by omega
        go_wp2_with fail
        go_ret
        exact ⟨rfl, HR.out.1⟩
end Go.Proofs.Ytkhbmgmppoepjaa
