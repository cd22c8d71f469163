/-
  The statement ProofTwo: its walk.
-/
import Derived.Test.YtebhlfmianohlaaDoorProofTwo
import Derived.Test.YtebhlfmianohlaaDoorProofAwake
import Derived.Test.YtebhlfmianohlaaDoorProofRefCheck
import Derived.Test.YtebhlfmianohlaaDoorRefOf
namespace Go.Proofs.YtebhlfmianohlaaDoor
open Go.RowKit

/-- What stands where the leaves are chosen. -/
def TwSt (w : World) (s1 s3 s4 s5 s6 : Value) (wx : World) : Prop :=
  ∃ (root : List UInt8) (n : Int) (A Ax B By : Option Addr) (na ca nx cx nb cb ny cy : Nat) (a b : List UInt8) (x y : List (List UInt8)),
    root.length = 32 ∧ n < 9223372036854775808 ∧ wx.heap[w.heap.size]? = some (.cells (row8 root) 31 (0, 0)) ∧ s1 = .int .i64 n ∧ s3 = .slice A na ca ∧ s4 = .slice Ax nx cx ∧ s5 = .slice B nb cb ∧ s6 = .slice By ny cy ∧
    Byt wx (fun _ => True) A na ca a ∧ Ids wx (fun _ => True) Ax nx cx x ∧ Byt wx (fun _ => True) B nb cb b ∧ Ids wx (fun _ => True) By ny cy y ∧ a.length ≤ 1000 ∧ b.length ≤ 1000 ∧ Below w.heap.size w wx

theorem leaves_small {own : List UInt8} (h : own.length ≤ 600) : ((splitL own).length : Int) < 9223372036854775808 := by
  have h1 := leaves_at own
  split at h1 <;> omega
theorem proveLeaf_le (own : List UInt8) (i : Int) : (proveLeaf own i).length ≤ 1000 := by
  unfold proveLeaf
  split
  · cases h : (splitL own)[i.toNat]? with
    | none => simp
    | some r => have := splitL_le own r (List.mem_of_getElem? h); simp; omega
  · simp

set_option maxHeartbeats 8000000 in
set_option maxRecDepth 100000 in
theorem walk_two {w : World} (root : List UInt8) (hroot : root.length = 32) {n i : Int} (hn0 : (Lit.int .i64 n).wf = true) (_hi0 : (Lit.int .i64 i).wf = true) {S T S2 T2 S3 : Nat → Prop} {A Ax B By C : Option Addr} {na ca nx cx nb cb ny cy nc cc : Nat} {a b own : List UInt8} {x y : List (List UInt8)}
    (ha : Byt w S A na ca a) (hx : Ids w T Ax nx cx x) (hb : Byt w S2 B nb cb b) (hy : Ids w T2 By ny cy y) (hc : Byt w S3 C nc cc own) (same : Bool) (ht : Tab w) :
    Calls Tryd.prog 6 #[.agg (row8 root), .int .i64 n, .int .i64 i, .slice A na ca, .slice Ax nx cx, .slice B nb cb, .slice By ny cy, .slice C nc cc, .bool same] w fun e w' => e = .returned (.bool true) ∧ Below w.heap.size w w' := by
  have hn : n < 9223372036854775808 := by have := bounds_i64 hn0; omega
  obtain ⟨OS, hOS⟩ : ∃ OS, OS = row8 root := ⟨_, rfl⟩
  rw [← hOS]
  have HOS : Hid (OS = row8 root ∧ OS.size = 32 ∧ root.length = 32) := Lib.hid ⟨hOS, by rw [hOS, row8_size, hroot], hroot⟩
  have hb0 : Below w.heap.size w (w.alloc (.cells OS 31)) := (Below.refl _ _).alloc (Nat.le_refl _) _
  have haw := pawake_true (ht.below (hb0.mono (Nat.le_refl _)))
  have H0 := Lib.hid (And.intro hb0 (heap_alloc_new w (.cells OS 31)))
  have HH := Lib.hid (And.intro ha (And.intro hx (And.intro hb (And.intro hy (And.intro hc (And.intro ht hn))))))
  clear hOS hroot hn0 _hi0 hb0 ha hx hb hy hc ht hn
  by_cases h1 : na ≤ 64
  · have h1' : ¬ (64 : Int) < (na : Int) := by omega
    by_cases h2 : nb ≤ 64
    · have h2' : ¬ (64 : Int) < (nb : Int) := by omega
      by_cases h3 : nx ≤ 70
      · have h3' : ¬ (70 : Int) < (nx : Int) := by omega
        by_cases h4 : ny ≤ 70
        · have h4' : ¬ (70 : Int) < (ny : Int) := by omega
          by_cases h5 : nc ≤ 600
          · have h5' : ¬ (600 : Int) < (nc : Int) := by omega
            go_enter Tryd.func6, Tryd.ntmps6
            go_upto_if 55 with (go_at_call 9; refine haw.mono ?_; clear haw; rintro _ w1 ⟨rfl, hb1⟩)
            have hbw := H0.out.1.trans (hb1.mono H0.out.1.size)
            have hx0 := (hb1.block _ (lt_of_cells H0.out.2)).trans H0.out.2
            have HW : Hid (Below w.heap.size w w1 ∧ w1.heap[w.heap.size]? = some (.cells OS 31 (0, 0)) ∧ Byt w1 (fun _ => True) A na ca a ∧ Ids w1 (fun _ => True) Ax nx cx x ∧ Byt w1 (fun _ => True) B nb cb b ∧ Ids w1 (fun _ => True) By ny cy y ∧ Byt w1 (fun _ => True) C nc cc own ∧ Tab w1) := Lib.hid ⟨hbw, hx0, (HH.out.1.mono fun _ _ _ => trivial).below hbw, (HH.out.2.1.mono fun _ _ _ => trivial).below hbw, (HH.out.2.2.1.mono fun _ _ _ => trivial).below hbw, (HH.out.2.2.2.1.mono fun _ _ _ => trivial).below hbw, (HH.out.2.2.2.2.1.mono fun _ _ _ => trivial).below hbw, HH.out.2.2.2.2.2.1.below hbw⟩
            have HLN : Hid (a.length ≤ 1000 ∧ b.length ≤ 1000 ∧ nc ≤ 600) := Lib.hid ⟨by have := HH.out.1.len; omega, by have := HH.out.2.2.1.len; omega, h5⟩
            clear hbw hx0 hb1 h1 h2 h3 h4 h5 h1' h2' h3' h4' h5'
            go_cut [1, 3, 4, 5, 6, 20, 21, 22] from 30 to 73 (fun s1 s3 s4 s5 s6 s20 s21 s22 wx => TwSt w s1 s3 s4 s5 s6 wx)
            case first =>
              by_cases h0 : nc = 0
              · have h0' : ¬ (0 : Int) < (nc : Int) := by omega
                clear h0
                go_wp2_with fail
                go_meet
                exact ⟨root, n, A, Ax, B, By, na, ca, nx, cx, nb, cb, ny, cy, a, b, x, y, HOS.out.2.2, HH.out.2.2.2.2.2.2, by rw [← HOS.out.1]; exact HW.out.2.1, rfl, rfl, rfl, rfl, rfl, HW.out.2.2.1, HW.out.2.2.2.1, HW.out.2.2.2.2.1, HW.out.2.2.2.2.2.1, HLN.out.1, HLN.out.2.1, HW.out.1⟩
              · have h0' : (0 : Int) < (nc : Int) := by omega
                clear h0
                have hr := root_any HW.out.2.2.2.2.2.2.1 (by have := HLN.out.2.2; omega) HW.out.2.2.2.2.2.2.2
                obtain ⟨RS, hRS⟩ : ∃ RS, RS = row8 (rootL own) := ⟨_, rfl⟩
                rw [← hRS] at hr
                have HRS : Hid (RS = row8 (rootL own) ∧ RS.size = 32 ∧ RS.all (·.oneCell') = true) := Lib.hid ⟨hRS, by rw [hRS, row8_size]; exact crownD_length _ _, by rw [hRS]; exact row8_one _⟩
                clear hRS
                have HW3 : ∀ w2, Below w1.heap.size w1 w2 → w2.heap[w.heap.size]? = some (.cells OS 31 (0, 0)) → Hid (Below w.heap.size w (w2.setRow w.heap.size RS) ∧ (w2.setRow w.heap.size RS).heap[w.heap.size]? = some (.cells RS 31 (0, 0))) := fun w2 h1 h2 => Lib.hid ⟨below_setRow (HW.out.1.trans (h1.mono HW.out.1.size)) (Nat.le_refl _) _, setRow_at h2⟩
                obtain ⟨EV, hEV⟩ : ∃ EV, EV = proveErr own i := ⟨_, rfl⟩
                have HEV := Lib.hid hEV
                clear hEV
                by_cases he : EV = 0
                · subst he
                  cases same
                  · skip
                    go_wp2_with (first
                    | (go_at_call 12; refine hr.mono ?_; clear hr; rintro _ w2 ⟨rfl, hb2⟩; have H2 := Lib.hid (And.intro hb2 ((hb2.block _ (lt_of_cells HW.out.2.1)).trans HW.out.2.1)); clear hb2)
                    | (refine wpList_store_row (by rfl) 31 (.tmp 9) (.tmp 57) (by rfl) w.heap.size RS (by rfl) (by rfl) 31 OS H2.out.2 (by rw [HRS.out.2.1]; exact id_info) (by rw [HOS.out.2.1, HRS.out.2.1]) HRS.out.2.2 ?_; have H3 := HW3 _ H2.out.1 H2.out.2; generalize World.setRow w2 w.heap.size RS = w3 at H3 ⊢; have hlv := leaves_any (HH.out.2.2.2.2.1.below H3.out.1); have hpv := prove_any (HH.out.2.2.2.2.1.below H3.out.1) (by have := HLN.out.2.2; omega) (HH.out.2.2.2.2.2.1.below H3.out.1) i; rw [← HEV.out] at hpv)
                    | (go_at_call 14; refine hlv.mono ?_; clear hlv; rintro _ _ ⟨rfl, rfl⟩)
                    | (go_at_call 10; refine hpv.mono ?_; clear hpv; rintro _ w4 ⟨A1, n1, c1, A2, n2, c2, rfl, hy1, hy2, hb4⟩; have H4 := Lib.hid (And.intro hy1 (And.intro hy2 (And.intro (H3.out.1.trans (hb4.mono H3.out.1.size)) ((hb4.block _ (lt_of_cells H3.out.2)).trans H3.out.2)))); clear hy1 hy2 hb4))
                    go_meet
                    exact ⟨rootL own, _, A1, A2, B, By, n1, c1, n2, c2, nb, cb, ny, cy, proveLeaf own i, b, proveWay own i, y, crownD_length _ _, leaves_small (by rw [HH.out.2.2.2.2.1.len]; exact HLN.out.2.2), by rw [← HRS.out.1]; exact H4.out.2.2.2, rfl, rfl, rfl, rfl, rfl, H4.out.1.mono fun _ _ _ => trivial, H4.out.2.1.mono fun _ _ _ => trivial, (HH.out.2.2.1.mono fun _ _ _ => trivial).below H4.out.2.2.1, (HH.out.2.2.2.1.mono fun _ _ _ => trivial).below H4.out.2.2.1, proveLeaf_le own i, HLN.out.2.1, H4.out.2.2.1⟩
                  · skip
                    go_wp2_with (first
                    | (go_at_call 12; refine hr.mono ?_; clear hr; rintro _ w2 ⟨rfl, hb2⟩; have H2 := Lib.hid (And.intro hb2 ((hb2.block _ (lt_of_cells HW.out.2.1)).trans HW.out.2.1)); clear hb2)
                    | (refine wpList_store_row (by rfl) 31 (.tmp 9) (.tmp 57) (by rfl) w.heap.size RS (by rfl) (by rfl) 31 OS H2.out.2 (by rw [HRS.out.2.1]; exact id_info) (by rw [HOS.out.2.1, HRS.out.2.1]) HRS.out.2.2 ?_; have H3 := HW3 _ H2.out.1 H2.out.2; generalize World.setRow w2 w.heap.size RS = w3 at H3 ⊢; have hlv := leaves_any (HH.out.2.2.2.2.1.below H3.out.1); have hpv := prove_any (HH.out.2.2.2.2.1.below H3.out.1) (by have := HLN.out.2.2; omega) (HH.out.2.2.2.2.2.1.below H3.out.1) i; rw [← HEV.out] at hpv)
                    | (go_at_call 14; refine hlv.mono ?_; clear hlv; rintro _ _ ⟨rfl, rfl⟩)
                    | (go_at_call 10; refine hpv.mono ?_; clear hpv; rintro _ w4 ⟨A1, n1, c1, A2, n2, c2, rfl, hy1, hy2, hb4⟩; have H4 := Lib.hid (And.intro hy1 (And.intro hy2 (And.intro (H3.out.1.trans (hb4.mono H3.out.1.size)) ((hb4.block _ (lt_of_cells H3.out.2)).trans H3.out.2)))); clear hy1 hy2 hb4))
                    go_meet
                    exact ⟨rootL own, _, A1, A2, A1, A2, n1, c1, n2, c2, n1, c1, n2, c2, proveLeaf own i, proveLeaf own i, proveWay own i, proveWay own i, crownD_length _ _, leaves_small (by rw [HH.out.2.2.2.2.1.len]; exact HLN.out.2.2), by rw [← HRS.out.1]; exact H4.out.2.2.2, rfl, rfl, rfl, rfl, rfl, H4.out.1.mono fun _ _ _ => trivial, H4.out.2.1.mono fun _ _ _ => trivial, H4.out.1.mono fun _ _ _ => trivial, H4.out.2.1.mono fun _ _ _ => trivial, proveLeaf_le own i, proveLeaf_le own i, H4.out.2.2.1⟩
                · have hne : (EV == 0) = false := by simpa using he
                  clear he
                  go_wp2_with (first
                    | (go_at_call 12; refine hr.mono ?_; clear hr; rintro _ w2 ⟨rfl, hb2⟩; have H2 := Lib.hid (And.intro hb2 ((hb2.block _ (lt_of_cells HW.out.2.1)).trans HW.out.2.1)); clear hb2)
                    | (refine wpList_store_row (by rfl) 31 (.tmp 9) (.tmp 57) (by rfl) w.heap.size RS (by rfl) (by rfl) 31 OS H2.out.2 (by rw [HRS.out.2.1]; exact id_info) (by rw [HOS.out.2.1, HRS.out.2.1]) HRS.out.2.2 ?_; have H3 := HW3 _ H2.out.1 H2.out.2; generalize World.setRow w2 w.heap.size RS = w3 at H3 ⊢; have hlv := leaves_any (HH.out.2.2.2.2.1.below H3.out.1); have hpv := prove_any (HH.out.2.2.2.2.1.below H3.out.1) (by have := HLN.out.2.2; omega) (HH.out.2.2.2.2.2.1.below H3.out.1) i; rw [← HEV.out] at hpv)
                    | (go_at_call 14; refine hlv.mono ?_; clear hlv; rintro _ _ ⟨rfl, rfl⟩)
                    | (go_at_call 10; refine hpv.mono ?_; clear hpv; rintro _ w4 ⟨A1, n1, c1, A2, n2, c2, rfl, hy1, hy2, hb4⟩; have H4 := Lib.hid (And.intro hy1 (And.intro hy2 (And.intro (H3.out.1.trans (hb4.mono H3.out.1.size)) ((hb4.block _ (lt_of_cells H3.out.2)).trans H3.out.2)))); clear hy1 hy2 hb4))
                  go_meet
                  exact ⟨rootL own, _, A, Ax, B, By, na, ca, nx, cx, nb, cb, ny, cy, a, b, x, y, crownD_length _ _, leaves_small (by rw [HH.out.2.2.2.2.1.len]; exact HLN.out.2.2), by rw [← HRS.out.1]; exact H4.out.2.2.2, rfl, rfl, rfl, rfl, rfl, (HH.out.1.mono fun _ _ _ => trivial).below H4.out.2.2.1, (HH.out.2.1.mono fun _ _ _ => trivial).below H4.out.2.2.1, (HH.out.2.2.1.mono fun _ _ _ => trivial).below H4.out.2.2.1, (HH.out.2.2.2.1.mono fun _ _ _ => trivial).below H4.out.2.2.1, HLN.out.1, HLN.out.2.1, H4.out.2.2.1⟩
            case rest =>
              obtain ⟨root', n', A', Ax', B', By', na', ca', nx', cx', nb', cb', ny', cy', a', b', x', y', h32, hn', hx0, rfl, rfl, rfl, rfl, rfl, hA, hX, hB, hY, hla, hlb, hbw⟩ := hcut
              have htx := HH.out.2.2.2.2.2.1.below hbw
              have htw := ptwo_any root' h32 n' i hn' hA hX hB hY htx
              obtain ⟨RS, hRS⟩ : ∃ RS, RS = row8 root' := ⟨_, rfl⟩
              rw [← hRS] at htw hx0
              have HRS : Hid (RS = row8 root' ∧ RS.size = 32 ∧ root'.length = 32) := Lib.hid ⟨hRS, by rw [hRS, row8_size, h32], h32⟩
              have HX := Lib.hid (And.intro hx0 (And.intro hA (And.intro hX (And.intro hB (And.intro hY (And.intro hla (And.intro hlb (And.intro hbw hn'))))))))
              clear hRS htx hx0 hA hX hB hY hla hlb hbw hn' h32 HW HLN H0
              by_cases hE : a' = b'
              · subst hE
                go_upto_region 17 with (first
                  | (refine wpList_load_row (by rfl) 31 (.tmp 9) (by rfl) w.heap.size (by rfl) 31 RS (0, 0) _ HX.out.1 Tryd.underlying31 (by rfl) (by rw [HRS.out.2.1]; exact id_info) ?_)
                  | (go_at_call 19; refine htw.mono ?_; clear htw; rintro _ w5 ⟨P1, p1, d1, Q1, q1, e1, l1, l2, t, rfl, hP, hQ, hT, hb5⟩; obtain rfl : t = false := (by rw [hT.eq]; simp); obtain rfl : p1 = 0 := (by rw [← hP.len, (hT.no rfl).1]; rfl); obtain rfl : q1 = 0 := (by rw [← hQ.len, (hT.no rfl).2]; rfl); have hs1 := byt_string (HX.out.2.1.below hb5); have hs2 := byt_string (HX.out.2.2.2.1.below hb5); have HB5 := Lib.hid (HX.out.2.2.2.2.2.2.2.1.trans (hb5.mono HX.out.2.2.2.2.2.2.2.1.size)); clear hP hQ hT hb5))
                go_wp2_with fail
                go_ret
                exact ⟨rfl, HB5.out⟩
              · have hE1 : (a' == b') = false := by simpa using hE
                obtain ⟨V1, hV1⟩ : ∃ V1, V1 = checkL root' n' i a' x' := ⟨_, rfl⟩
                have HV1 := Lib.hid hV1
                clear hV1
                by_cases h1 : V1 = 0
                · subst h1
                  obtain ⟨V2, hV2⟩ : ∃ V2, V2 = checkL root' n' i b' y' := ⟨_, rfl⟩
                  have HV2 := Lib.hid hV2
                  clear hV2
                  by_cases h2 : V2 = 0
                  · subst h2
                    go_upto_region 17 with (first
                      | (refine wpList_load_row (by rfl) 31 (.tmp 9) (by rfl) w.heap.size (by rfl) 31 RS (0, 0) _ HX.out.1 Tryd.underlying31 (by rfl) (by rw [HRS.out.2.1]; exact id_info) ?_)
                      | (go_at_call 19; refine htw.mono ?_; clear htw; rintro _ w5 ⟨P1, p1, d1, Q1, q1, e1, l1, l2, t, rfl, hP, hQ, hT, hb5⟩; obtain rfl : t = true := (by rw [hT.eq, ← HV1.out, ← HV2.out]; simp [hE]); have HT0 := Lib.hid (And.intro hP (And.intro hQ (hT.yes rfl))); have hs1 := byt_string (HX.out.2.1.below hb5); have hs2 := byt_string (HX.out.2.2.2.1.below hb5); have HB5 := Lib.hid hb5; have H5 := Lib.hid (And.intro (HX.out.2.2.2.2.2.2.2.1.trans (hb5.mono HX.out.2.2.2.2.2.2.2.1.size)) (And.intro ((hb5.block _ (lt_of_cells HX.out.1)).trans HX.out.1) (And.intro (HX.out.2.2.1.below hb5) (HX.out.2.2.2.2.1.below hb5)))); have hrc := rcheck_any root' HRS.out.2.2 n' i HX.out.2.2.2.2.2.2.2.2 HX.out.2.2.2.2.2.1 H5.out.2.2.1; rw [← HRS.out.1, ← HV1.out] at hrc; clear hP hQ hT hb5))
                    go_wp2_with (first
                      | (refine wpList_load_row_on (by rfl) 31 (.tmp 9) (by rfl) w.heap.size (by rfl) 31 RS (0, 0) _ H5.out.2.1 Tryd.underlying31 (by rfl) (by rw [HRS.out.2.1]; exact id_info) ?_)
                      | (go_at_call 18; refine hrc.mono ?_; clear hrc; rintro _ w6 ⟨rfl, hb6⟩; have H6 := Lib.hid (And.intro (H5.out.1.trans (hb6.mono H5.out.1.size)) (And.intro ((hb6.block _ (lt_of_cells H5.out.2.1)).trans H5.out.2.1) (H5.out.2.2.2.below hb6))); have hrd := rcheck_any root' HRS.out.2.2 n' i HX.out.2.2.2.2.2.2.2.2 HX.out.2.2.2.2.2.2.1 H6.out.2.2; rw [← HRS.out.1, ← HV2.out] at hrd; have hb6' := hb6; have hs3 := byt_string ((HX.out.2.2.2.1.below HB5.out).below hb6); clear hb6)
                      | (refine wpList_load_row_on (by rfl) 31 (.tmp 9) (by rfl) w.heap.size (by rfl) 31 RS (0, 0) _ H6.out.2.1 Tryd.underlying31 (by rfl) (by rw [HRS.out.2.1]; exact id_info) ?_)
                      | (go_at_call 18; refine hrd.mono ?_; clear hrd; rintro _ w7 ⟨rfl, hb7⟩; have H7 := Lib.hid (And.intro (H6.out.1.trans (hb7.mono H6.out.1.size)) (And.intro ((HT0.out.1.below hb6').below hb7) ((HT0.out.2.1.below hb6').below hb7))); clear hb7))
                    obtain ⟨XS, hXS⟩ : ∃ XS, XS = (u8s (shaL l1)).toArray := ⟨_, rfl⟩
                    have hne := twoB_true.1 HT0.out.2.2.1
                    have hq := fun w => id_eql (shaL l1) (shaL l1) (shaL_length _) (shaL_length _) w
                    rw [← hXS] at hq
                    simp only [decide_true] at hq
                    have HEQ := Lib.hid hq
                    have HXS : Hid (XS = (u8s (shaL l1)).toArray ∧ XS = (u8s (shaL l2)).toArray) := Lib.hid ⟨hXS, by rw [hXS, hne.2]⟩
                    have HNE : Hid ((l1 == l2) = false) := Lib.hid (by simpa using hne.1)
                    have HT : Hid (Byt w7.drew (wc.heap.size ≤ ·) P1 p1 d1 l1 ∧ Byt w7.drew (wc.heap.size ≤ ·) Q1 q1 e1 l2 ∧ True ∧ l1.length ≤ 1000 ∧ l2.length ≤ 1000) := Lib.hid ⟨H7.out.2.1.drew, H7.out.2.2.drew, trivial, HT0.out.2.2.2.1, HT0.out.2.2.2.2⟩
                    clear hXS hne hq
                    refine wp_region_grow (fun W W' => Below W.heap.size W W') (Grow.nth [fun v _ => v = .bool true, fun v _ => v = .bool true, fun v _ => v = .slice P1 p1 d1, fun v _ => v = .string (st l1), fun v _ => v = .slice Q1 q1 e1, fun v _ => v = .string (st l2), fun v _ => v = .bool true, fun v _ => v = .bool true, fun v _ => v = .bool true, fun v _ => v = .slice P1 p1 d1, fun v _ => v = .string (st l1), fun v _ => v = .agg XS, fun v _ => v = .slice Q1 q1 e1, fun v _ => v = .string (st l2), fun v _ => v = .agg XS, fun v _ => v = .bool true, fun v _ => v = .bool true, fun v _ => v = .bool true]) 140 (by kernel_rfl) (by kernel_rfl) (by rfl) (fun W => Below.refl _ W) (fun _ _ _ h1 h2 => h1.trans (h2.mono h1.size)) (Grow.mono_nth ?gmono) ?gsteps ?gfin
                    case gmono => exact ⟨fun _ _ _ h _ => h, fun _ _ _ h _ => h, fun _ _ _ h _ => h, fun _ _ _ h _ => h, fun _ _ _ h _ => h, fun _ _ _ h _ => h, fun _ _ _ h _ => h, fun _ _ _ h _ => h, fun _ _ _ h _ => h, fun _ _ _ h _ => h, fun _ _ _ h _ => h, fun _ _ _ h _ => h, fun _ _ _ h _ => h, fun _ _ _ h _ => h, fun _ _ _ h _ => h, fun _ _ _ h _ => h, fun _ _ _ h _ => h, fun _ _ _ h _ => h, trivial⟩
                    case gsteps =>
                      show Grow.allBelow _ 18
                      refine And.intro ?_ ?s17
                      refine And.intro ?_ ?s16
                      refine And.intro ?_ ?s15
                      refine And.intro ?_ ?s14
                      refine And.intro ?_ ?s13
                      refine And.intro ?_ ?s12
                      refine And.intro ?_ ?s11
                      refine And.intro ?_ ?s10
                      refine And.intro ?_ ?s9
                      refine And.intro ?_ ?s8
                      refine And.intro ?_ ?s7
                      refine And.intro ?_ ?s6
                      refine And.intro ?_ ?s5
                      refine And.intro ?_ ?s4
                      refine And.intro ?_ ?s3
                      refine And.intro ?_ ?s2
                      refine And.intro ?_ ?s1
                      refine And.intro ?_ ?s0
                      exact trivial
                      case s0 =>
                        refine Grow.step_in (by rfl) (by rfl) ?_
                        intro E W ec eg ef hG hd hu R HR
                        have e26 : E (.tmp 26) = .bool true := hu 26 (by kernel_rfl)
                        clear hd hu
                        go_simp
                        exact HR.out _ _ (Below.refl _ _) rfl
                      case s1 =>
                        refine Grow.step_in (by rfl) (by rfl) ?_
                        intro E W ec eg ef hG hd hu R HR
                        have e123 : E (.tmp 123) = .bool true := hd 0 123 (by kernel_rfl)
                        clear hd hu
                        go_simp
                        exact HR.out _ _ (Below.refl _ _) rfl
                      case s2 =>
                        refine Grow.step_on (g := 1) (b := true) (d := 124) (by rfl) (by rfl) (by rfl) (by kernel_rfl) (fun v W h => h) ?_
                        intro E W ec eg ef hG hd hu R HR
                        have e23 : E (.tmp 23) = .slice P1 p1 d1 := hu 23 (by kernel_rfl)
                        clear hd hu
                        go_simp
                        exact HR.out _ _ (Below.refl _ _) rfl
                      case s3 =>
                        refine Grow.step_on (g := 1) (b := true) (d := 124) (by rfl) (by rfl) (by rfl) (by kernel_rfl) (fun v W h => h) ?_
                        intro E W ec eg ef hG hd hu R HR
                        have e125 : E (.tmp 125) = .slice P1 p1 d1 := hd 2 125 (by kernel_rfl)
                        clear hd hu
                        have hs := byt_string (HT.out.1.below hG)
                        go_simp
                        exact HR.out _ _ (Below.refl _ _) rfl
                      case s4 =>
                        refine Grow.step_on (g := 1) (b := true) (d := 124) (by rfl) (by rfl) (by rfl) (by kernel_rfl) (fun v W h => h) ?_
                        intro E W ec eg ef hG hd hu R HR
                        have e24 : E (.tmp 24) = .slice Q1 q1 e1 := hu 24 (by kernel_rfl)
                        clear hd hu
                        go_simp
                        exact HR.out _ _ (Below.refl _ _) rfl
                      case s5 =>
                        refine Grow.step_on (g := 1) (b := true) (d := 124) (by rfl) (by rfl) (by rfl) (by kernel_rfl) (fun v W h => h) ?_
                        intro E W ec eg ef hG hd hu R HR
                        have e127 : E (.tmp 127) = .slice Q1 q1 e1 := hd 4 127 (by kernel_rfl)
                        clear hd hu
                        have hs := byt_string (HT.out.2.1.below hG)
                        go_simp
                        exact HR.out _ _ (Below.refl _ _) rfl
                      case s6 =>
                        refine Grow.step_on (g := 1) (b := true) (d := 124) (by rfl) (by rfl) (by rfl) (by kernel_rfl) (fun v W h => h) ?_
                        intro E W ec eg ef hG hd hu R HR
                        have e126 : E (.tmp 126) = .string (st l1) := hd 3 126 (by kernel_rfl)
                        have e128 : E (.tmp 128) = .string (st l2) := hd 5 128 (by kernel_rfl)
                        clear hd hu
                        go_simp
                        exact HR.out _ _ (Below.refl _ _) (show Value.bool (!((st l1).toList == (st l2).toList)) = Value.bool true by rw [st_list, st_list, HNE.out]; rfl)
                      case s7 =>
                        refine Grow.step_in (by rfl) (by rfl) ?_
                        intro E W ec eg ef hG hd hu R HR
                        have e124 : E (.tmp 124) = .bool true := hd 1 124 (by kernel_rfl)
                        have e129 : E (.tmp 129) = .bool true := hd 6 129 (by kernel_rfl)
                        clear hd hu
                        go_simp
                        exact HR.out _ _ (Below.refl _ _) rfl
                      case s8 =>
                        refine Grow.step_in (by rfl) (by rfl) ?_
                        intro E W ec eg ef hG hd hu R HR
                        have e130 : E (.tmp 130) = .bool true := hd 7 130 (by kernel_rfl)
                        clear hd hu
                        go_simp
                        exact HR.out _ _ (Below.refl _ _) rfl
                      case s9 =>
                        refine Grow.step_on (g := 8) (b := true) (d := 131) (by rfl) (by rfl) (by rfl) (by kernel_rfl) (fun v W h => h) ?_
                        intro E W ec eg ef hG hd hu R HR
                        have e23 : E (.tmp 23) = .slice P1 p1 d1 := hu 23 (by kernel_rfl)
                        clear hd hu
                        go_simp
                        exact HR.out _ _ (Below.refl _ _) rfl
                      case s10 =>
                        refine Grow.step_on (g := 8) (b := true) (d := 131) (by rfl) (by rfl) (by rfl) (by kernel_rfl) (fun v W h => h) ?_
                        intro E W ec eg ef hG hd hu R HR
                        have e132 : E (.tmp 132) = .slice P1 p1 d1 := hd 9 132 (by kernel_rfl)
                        clear hd hu
                        have hs := byt_string (HT.out.1.below hG)
                        go_simp
                        exact HR.out _ _ (Below.refl _ _) rfl
                      case s11 =>
                        refine Grow.step_on (g := 8) (b := true) (d := 131) (by rfl) (by rfl) (by rfl) (by kernel_rfl) (fun v W h => h) ?_
                        intro E W ec eg ef hG hd hu R HR
                        have e133 : E (.tmp 133) = .string (st l1) := hd 10 133 (by kernel_rfl)
                        clear hd hu
                        go_simp
                        refine (rof_any l1 (by have := HT.out.2.2.2.1; omega) _).mono ?_
                        rintro _ w' ⟨rfl, hb⟩
                        exact ⟨_, rfl, HR.out _ _ hb (show Value.agg _ = Value.agg XS by rw [HXS.out.1])⟩
                      case s12 =>
                        refine Grow.step_on (g := 8) (b := true) (d := 131) (by rfl) (by rfl) (by rfl) (by kernel_rfl) (fun v W h => h) ?_
                        intro E W ec eg ef hG hd hu R HR
                        have e24 : E (.tmp 24) = .slice Q1 q1 e1 := hu 24 (by kernel_rfl)
                        clear hd hu
                        go_simp
                        exact HR.out _ _ (Below.refl _ _) rfl
                      case s13 =>
                        refine Grow.step_on (g := 8) (b := true) (d := 131) (by rfl) (by rfl) (by rfl) (by kernel_rfl) (fun v W h => h) ?_
                        intro E W ec eg ef hG hd hu R HR
                        have e135 : E (.tmp 135) = .slice Q1 q1 e1 := hd 12 135 (by kernel_rfl)
                        clear hd hu
                        have hs := byt_string (HT.out.2.1.below hG)
                        go_simp
                        exact HR.out _ _ (Below.refl _ _) rfl
                      case s14 =>
                        refine Grow.step_on (g := 8) (b := true) (d := 131) (by rfl) (by rfl) (by rfl) (by kernel_rfl) (fun v W h => h) ?_
                        intro E W ec eg ef hG hd hu R HR
                        have e136 : E (.tmp 136) = .string (st l2) := hd 13 136 (by kernel_rfl)
                        clear hd hu
                        go_simp
                        refine (rof_any l2 (by have := HT.out.2.2.2.2; omega) _).mono ?_
                        rintro _ w' ⟨rfl, hb⟩
                        exact ⟨_, rfl, HR.out _ _ hb (show Value.agg _ = Value.agg XS by rw [HXS.out.2])⟩
                      case s15 =>
                        refine Grow.step_on (g := 8) (b := true) (d := 131) (by rfl) (by rfl) (by rfl) (by kernel_rfl) (fun v W h => h) ?_
                        intro E W ec eg ef hG hd hu R HR
                        have e134 : E (.tmp 134) = .agg XS := hd 11 134 (by kernel_rfl)
                        have e137 : E (.tmp 137) = .agg XS := hd 14 137 (by kernel_rfl)
                        clear hd hu
                        have hq := HEQ.out
                        go_simp
                        exact HR.out _ _ (Below.refl _ _) rfl
                      case s16 =>
                        refine Grow.step_in (by rfl) (by rfl) ?_
                        intro E W ec eg ef hG hd hu R HR
                        have e131 : E (.tmp 131) = .bool true := hd 8 131 (by kernel_rfl)
                        have e138 : E (.tmp 138) = .bool true := hd 15 138 (by kernel_rfl)
                        clear hd hu
                        go_simp
                        exact HR.out _ _ (Below.refl _ _) rfl
                      case s17 =>
                        refine Grow.step_in (by rfl) (by rfl) ?_
                        intro E W ec eg ef hG hd hu R HR
                        have e139 : E (.tmp 139) = .bool true := hd 16 139 (by kernel_rfl)
                        clear hd hu
                        go_simp
                        exact HR.out _ _ (Below.refl _ _) rfl
                    case gfin =>
                      intro W hG
                      refine Grow.fin_dst (by rfl) ?_
                      rintro _ rfl
                      refine Grow.fin_dst (by rfl) ?_
                      rintro _ rfl
                      refine Grow.fin_dst (by rfl) ?_
                      rintro _ rfl
                      refine Grow.fin_dst (by rfl) ?_
                      rintro _ rfl
                      refine Grow.fin_dst (by rfl) ?_
                      rintro _ rfl
                      refine Grow.fin_dst (by rfl) ?_
                      rintro _ rfl
                      refine Grow.fin_dst (by rfl) ?_
                      rintro _ rfl
                      refine Grow.fin_dst (by rfl) ?_
                      rintro _ rfl
                      refine Grow.fin_dst (by rfl) ?_
                      rintro _ rfl
                      refine Grow.fin_dst (by rfl) ?_
                      rintro _ rfl
                      refine Grow.fin_dst (by rfl) ?_
                      rintro _ rfl
                      refine Grow.fin_dst (by rfl) ?_
                      rintro _ rfl
                      refine Grow.fin_dst (by rfl) ?_
                      rintro _ rfl
                      refine Grow.fin_dst (by rfl) ?_
                      rintro _ rfl
                      refine Grow.fin_dst (by rfl) ?_
                      rintro _ rfl
                      refine Grow.fin_dst (by rfl) ?_
                      rintro _ rfl
                      refine Grow.fin_dst (by rfl) ?_
                      rintro _ rfl
                      refine Grow.fin_dst (by rfl) ?_
                      rintro _ rfl
                      simp only [Act.put, List.setIfInBounds_toArray, List.set_cons_zero, List.set_cons_succ]
                      refine Grow.fin_end ?_
                      have HBW := Lib.hid (H7.out.1.trans ((Grow.below_of_drew hG).mono H7.out.1.size))
                      clear hG
                      go_wp2_with fail
                      go_ret
                      exact ⟨rfl, HBW.out⟩
                  · have h2' : (V2 == 0) = false := by simpa using h2
                    go_upto_region 17 with (first
                      | (refine wpList_load_row (by rfl) 31 (.tmp 9) (by rfl) w.heap.size (by rfl) 31 RS (0, 0) _ HX.out.1 Tryd.underlying31 (by rfl) (by rw [HRS.out.2.1]; exact id_info) ?_)
                      | (go_at_call 19; refine htw.mono ?_; clear htw; rintro _ w5 ⟨P1, p1, d1, Q1, q1, e1, l1, l2, t, rfl, hP, hQ, hT, hb5⟩; obtain rfl : t = false := (by rw [hT.eq]; rw [← HV2.out]; simp [h2]); obtain rfl : p1 = 0 := (by rw [← hP.len, (hT.no rfl).1]; rfl); obtain rfl : q1 = 0 := (by rw [← hQ.len, (hT.no rfl).2]; rfl); have hs1 := byt_string (HX.out.2.1.below hb5); have hs2 := byt_string (HX.out.2.2.2.1.below hb5); have HB5 := Lib.hid hb5; have H5 := Lib.hid (And.intro (HX.out.2.2.2.2.2.2.2.1.trans (hb5.mono HX.out.2.2.2.2.2.2.2.1.size)) (And.intro ((hb5.block _ (lt_of_cells HX.out.1)).trans HX.out.1) (And.intro (HX.out.2.2.1.below hb5) (HX.out.2.2.2.2.1.below hb5)))); have hrc := rcheck_any root' HRS.out.2.2 n' i HX.out.2.2.2.2.2.2.2.2 HX.out.2.2.2.2.2.1 H5.out.2.2.1; rw [← HRS.out.1, ← HV1.out] at hrc; clear hP hQ hT hb5))
                    go_wp2_with (first
                      | (refine wpList_load_row_on (by rfl) 31 (.tmp 9) (by rfl) w.heap.size (by rfl) 31 RS (0, 0) _ H5.out.2.1 Tryd.underlying31 (by rfl) (by rw [HRS.out.2.1]; exact id_info) ?_)
                      | (go_at_call 18; refine hrc.mono ?_; clear hrc; rintro _ w6 ⟨rfl, hb6⟩; have H6 := Lib.hid (And.intro (H5.out.1.trans (hb6.mono H5.out.1.size)) (And.intro ((hb6.block _ (lt_of_cells H5.out.2.1)).trans H5.out.2.1) (H5.out.2.2.2.below hb6))); have hrd := rcheck_any root' HRS.out.2.2 n' i HX.out.2.2.2.2.2.2.2.2 HX.out.2.2.2.2.2.2.1 H6.out.2.2; rw [← HRS.out.1, ← HV2.out] at hrd; have hs3 := byt_string ((HX.out.2.2.2.1.below HB5.out).below hb6); clear hb6)
                      | (refine wpList_load_row_on (by rfl) 31 (.tmp 9) (by rfl) w.heap.size (by rfl) 31 RS (0, 0) _ H6.out.2.1 Tryd.underlying31 (by rfl) (by rw [HRS.out.2.1]; exact id_info) ?_)
                      | (go_at_call 18; refine hrd.mono ?_; clear hrd; rintro _ w7 ⟨rfl, hb7⟩; have H7 := Lib.hid (H6.out.1.trans (hb7.mono H6.out.1.size)); clear hb7))
                    go_ret
                    exact ⟨rfl, H7.out⟩
                · have h1' : (V1 == 0) = false := by simpa using h1
                  go_upto_region 17 with (first
                    | (refine wpList_load_row (by rfl) 31 (.tmp 9) (by rfl) w.heap.size (by rfl) 31 RS (0, 0) _ HX.out.1 Tryd.underlying31 (by rfl) (by rw [HRS.out.2.1]; exact id_info) ?_)
                    | (go_at_call 19; refine htw.mono ?_; clear htw; rintro _ w5 ⟨P1, p1, d1, Q1, q1, e1, l1, l2, t, rfl, hP, hQ, hT, hb5⟩; obtain rfl : t = false := (by rw [hT.eq]; rw [← HV1.out]; simp [h1]); obtain rfl : p1 = 0 := (by rw [← hP.len, (hT.no rfl).1]; rfl); obtain rfl : q1 = 0 := (by rw [← hQ.len, (hT.no rfl).2]; rfl); have hs1 := byt_string (HX.out.2.1.below hb5); have hs2 := byt_string (HX.out.2.2.2.1.below hb5); have H5 := Lib.hid (And.intro (HX.out.2.2.2.2.2.2.2.1.trans (hb5.mono HX.out.2.2.2.2.2.2.2.1.size)) (And.intro ((hb5.block _ (lt_of_cells HX.out.1)).trans HX.out.1) (And.intro (HX.out.2.2.1.below hb5) (HX.out.2.2.2.2.1.below hb5)))); have hrc := rcheck_any root' HRS.out.2.2 n' i HX.out.2.2.2.2.2.2.2.2 HX.out.2.2.2.2.2.1 H5.out.2.2.1; rw [← HRS.out.1, ← HV1.out] at hrc; clear hP hQ hT hb5))
                  go_wp2_with (refine wpList_load_row_on (by rfl) 31 (.tmp 9) (by rfl) w.heap.size (by rfl) 31 RS (0, 0) _ H5.out.2.1 Tryd.underlying31 (by rfl) (by rw [HRS.out.2.1]; exact id_info) ?_)
                  refine hrc.mono ?_
                  rintro _ w6 ⟨rfl, hb6⟩
                  have H6 := Lib.hid (H5.out.1.trans (hb6.mono H5.out.1.size))
                  clear hb6 hrc
                  go_wp2_with fail
                  go_ret
                  exact ⟨rfl, H6.out⟩
          · have h5' : (600 : Int) < (nc : Int) := by omega
            go_enter Tryd.func6, Tryd.ntmps6
            go_wp2_with (go_at_call 9; refine haw.mono ?_; clear haw; rintro _ w1 ⟨rfl, hb1⟩)
            go_ret
            exact ⟨rfl, H0.out.1.trans (hb1.mono H0.out.1.size)⟩
        · have h4' : (70 : Int) < (ny : Int) := by omega
          go_enter Tryd.func6, Tryd.ntmps6
          go_wp2_with (go_at_call 9; refine haw.mono ?_; clear haw; rintro _ w1 ⟨rfl, hb1⟩)
          go_ret
          exact ⟨rfl, H0.out.1.trans (hb1.mono H0.out.1.size)⟩
      · have h3' : (70 : Int) < (nx : Int) := by omega
        go_enter Tryd.func6, Tryd.ntmps6
        go_wp2_with (go_at_call 9; refine haw.mono ?_; clear haw; rintro _ w1 ⟨rfl, hb1⟩)
        go_ret
        exact ⟨rfl, H0.out.1.trans (hb1.mono H0.out.1.size)⟩
    · have h2' : (64 : Int) < (nb : Int) := by omega
      go_enter Tryd.func6, Tryd.ntmps6
      go_wp2_with (go_at_call 9; refine haw.mono ?_; clear haw; rintro _ w1 ⟨rfl, hb1⟩)
      go_ret
      exact ⟨rfl, H0.out.1.trans (hb1.mono H0.out.1.size)⟩
  · have h1' : (64 : Int) < (na : Int) := by omega
    go_enter Tryd.func6, Tryd.ntmps6
    go_wp2_with (go_at_call 9; refine haw.mono ?_; clear haw; rintro _ w1 ⟨rfl, hb1⟩)
    go_ret
    exact ⟨rfl, H0.out.1.trans (hb1.mono H0.out.1.size)⟩
end Go.Proofs.YtebhlfmianohlaaDoor
