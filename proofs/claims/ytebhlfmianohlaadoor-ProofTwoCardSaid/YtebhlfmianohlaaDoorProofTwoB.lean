/-
  proof.Two, where both are proved.
-/
import Derived.Test.YtebhlfmianohlaaDoorProofTwoA
namespace Go.Proofs.YtebhlfmianohlaaDoor
open Go.RowKit Go.Shelf
attribute [local go_sem] Oper.semAt_some

def sl4 (x : ClV) : Value := .slice x.1.1 x.1.2.1 x.1.2.2
theorem byt_info4 : (Tryd.prog.info? 22).map (fun i => (i.zero, i.size, i.bytes)) = some (some (.slice none 0 0), 1, 24) := by kernel_rfl
/-- Between two rounds of the first loop. -/
def TwI (w2 : World) (B : Nat) (D : Nat → Prop) (pre : List ClV) (W : World) : Prop :=
  Below w2.heap.size w2 W ∧ ∃ v, Boxed W w2.heap.size 70 v ∧ W.ownsRow B 22 1 v pre.length (pre.map sl4) ∧ ∀ g, v.ownBlock = some g → ¬ D g
theorem TwI.still (w2 : World) {B : Nat} (hB : w2.heap.size < B) : Still B (TwI w2 B) := by
  rintro D D' s W W' hb ⟨h1, v, h2, h3, h4⟩ hS hD
  refine ⟨hS.below h1 hb (Nat.le_refl _) (by omega), v, hS.boxed h2 (hb.not hB), own_steps h3 hS h4, fun g hg hd => ?_⟩
  rcases hD g hd with h | h
  · exact h4 g hg h
  · have := (own_lt h3 hg).2.1
    omega
/-- Between two rounds of the second loop. -/
def TwJ (w3 : World) (R1 R2 : List (List UInt8)) (_ : Nat → Prop) (pre : List ClV) (W : World) : Prop :=
  Below w3.heap.size w3 W ∧ Boxed W w3.heap.size 3 (.int .i64 (pre.length : Int)) ∧ ∀ k, k < pre.length → twoB (R1[k]?.getD []) (R2[k]?.getD []) = false
theorem TwJ.still (w3 : World) (R1 R2 : List (List UInt8)) {B : Nat} (hB : w3.heap.size < B) : Still B (TwJ w3 R1 R2) := by
  rintro D D' s W W' hb ⟨h1, h2, h3⟩ hS hD
  exact ⟨hS.below h1 hb (Nat.le_refl _) (by omega), hS.boxed h2 (hb.not hB), h3⟩
/-- Where two rows are found. -/
def TwX (w3 : World) (g : Nat) (R1 R2 : List (List UInt8)) (xs : List ClV) (c : Code) (_ : Nat → Prop) (pre : List ClV) (W : World) : Prop :=
  c = .ret ∧ Turned (fun b => w3.heap.size ≤ b ∨ b = g ∨ b = g + 1 ∨ b = g + 1 + 1) w3 W ∧ ∃ (k : Nat) (x y : ClV), pre.length = k + 1 ∧ xs[k]? = some x ∧ pre[k]? = some y ∧ twoB (R1[k]?.getD []) (R2[k]?.getD []) = true ∧
    Boxed W g 22 (sl4 x) ∧ Boxed W (g + 1) 22 (sl4 y) ∧ Boxed W (g + 1 + 1) 4 (.bool true)
theorem TwX.still (w3 : World) (g : Nat) (R1 R2 : List (List UInt8)) (xs : List ClV) (c : Code) {B : Nat} (hB : w3.heap.size ≤ B) (hg : g + 1 + 1 < w3.heap.size) : Still B (TwX w3 g R1 R2 xs c) := by
  rintro D D' s W W' hb ⟨hc, h1, k, x, y, h2, h3, h4, h5, h6, h7, h8⟩ hS hD
  refine ⟨hc, h1.trans ⟨hS.os, hS.tape, hS.output, hS.size, fun b hbl hn => hS.block b hbl (hb.not (by omega)) (.inl (by omega))⟩ (fun _ _ h => h), k, x, y, h2, h3, h4, h5, hS.boxed h6 (hb.not (by omega)), hS.boxed h7 (hb.not (by omega)), hS.boxed h8 (hb.not (by omega))⟩
theorem bes_log : ∀ (k m h a : Nat), m ≤ 2 ^ k → (bes m h a).length ≤ k := by
  intro k
  induction k with
  | zero =>
    intro m h a hm
    rw [bes_one (by simp at hm; omega)]
    simp
  | succ k ih =>
    intro m h a hm
    by_cases h1 : 1 < m
    · rw [bes_more h1, List.length_append]
      have := ih ((m + 1) / 2) (h + 1) (a / 2) (by rw [Nat.pow_succ] at hm; omega)
      split <;> simp <;> omega
    · rw [bes_one h1]
      simp
theorem climbRows_short {n i : Nat} {leaf : List UInt8} {way : List (List UInt8)} (hl : leaf.length ≤ 64) (h32 : ∀ a ∈ way, a.length = 32) : ∀ k : Nat, ((climbRows n i leaf way)[k]?.getD []).length ≤ 1000 := by
  have hup : ∀ (ps : List (Nat × Nat)) (ys : List (List UInt8)) (x : List UInt8), x.length = 32 → (∀ a ∈ ys, a.length = 32) → ∀ r ∈ upR ps ys x, r.length ≤ 1000 := by
    intro ps
    induction ps with
    | nil => intro ys x _ _ r hr; simp [upR] at hr
    | cons p ps ih =>
      intro ys x hx hys r hr
      rcases ys with _ | ⟨y, ys⟩
      · simp [upR] at hr
      · rw [upR, List.mem_cons] at hr
        rcases hr with rfl | hr
        · have := hys y (by simp)
          unfold pairR
          split <;> simp <;> omega
        · exact ih ys _ (shaL_length _) (fun a ha => hys a (by simp [ha])) r hr
  have hall : ∀ r ∈ climbRows n i leaf way, r.length ≤ 1000 := by
    intro r hr
    rw [climbRows, List.mem_cons, List.mem_append, List.mem_singleton] at hr
    rcases hr with rfl | hr | rfl
    · simp
      omega
    · exact hup _ _ _ (shaL_length _) h32 r hr
    · have h1 : (topX n i leaf way).length = 32 := by
        unfold topX
        exact upX_length _ _ _ (shaL_length _)
      rw [List.length_cons, List.length_append, le8_length, h1]
      omega
  intro k
  cases hk : (climbRows n i leaf way)[k]? with
  | none => simp
  | some r => exact hall r (List.mem_of_getElem? hk)

set_option maxHeartbeats 4000000 in
set_option maxRecDepth 100000 in
theorem ptwo_both {w W0 : World} {OS : Array Value} {S T S2 T2 : Nat → Prop} {A Ax B By : Option Addr} {na ca nx cx nb cb ny cy : Nat} {a b : List UInt8} {x y : List (List UInt8)} (root : List UInt8) (hroot : root.length = 32) (n i : Int) (hn : n < 9223372036854775808)
    (ha : Byt w S A na ca a) (hx : Ids w T Ax nx cx x) (hb : Byt w S2 B nb cb b) (hy : Ids w T2 By ny cy y) (ht : Tab w) (hab : a ≠ b) (h1 : checkL root n i a x = 0) (h2 : checkL root n i b y = 0) (hOS : OS = row8 root)
    (hW0 : (((w.alloc (.cells OS 31)).alloc (.cells #[.slice none 0 0] 22)).alloc (.cells #[.slice none 0 0] 22)).alloc (.cells #[.bool false] 4) = W0)
    (H0 : Hid (W0.heap.size = w.heap.size + 4 ∧ Below w.heap.size w W0 ∧ W0.heap[w.heap.size]? = some (.cells OS 31 (0, 0)) ∧ Boxed W0 (w.heap.size + 1) 22 (.slice none 0 0) ∧ Boxed W0 (w.heap.size + 1 + 1) 22 (.slice none 0 0) ∧ Boxed W0 (w.heap.size + 1 + 1 + 1) 4 (.bool false))) :
    Calls Tryd.prog 19 #[.agg OS, .int .i64 n, .int .i64 i, .slice A na ca, .slice Ax nx cx, .slice B nb cb, .slice By ny cy] w (PTwo w root n i a x b y) := by
  have HOS : Hid (OS = row8 root ∧ OS.size = 32 ∧ root.length = 32) := Lib.hid ⟨hOS, by rw [hOS, row8_size, hroot], hroot⟩
  have heq := equal_any (ha.below H0.out.2.1) (hb.below H0.out.2.1)
  have hd : (a == b) = false := by simpa using hab
  have hr := check_range h1
  obtain ⟨i', rfl⟩ := Int.eq_ofNat_of_zero_le hr.1
  obtain ⟨n', rfl⟩ := Int.eq_ofNat_of_zero_le (show 0 ≤ n by omega)
  have hi' : i' < n' := by omega
  have hn' : n' < 9223372036854775808 := by omega
  have hc1 := check_any root hroot n' i' hn (ha.below H0.out.2.1) (hx.below H0.out.2.1) (ht.below H0.out.2.1)
  rw [h1, ← hOS] at hc1
  have HCL := Lib.hid (two_clash hi' hx.each hy.each hab h1 h2)
  have HLN := Lib.hid (And.intro (check_length hi' h1) (check_length hi' h2))
  have HA := Lib.hid (And.intro ha (And.intro hx (And.intro hb (And.intro hy (And.intro ht hn)))))
  have HI := Lib.hid (And.intro hi' (And.intro hn' (And.intro hab (And.intro h1 h2))))
  clear ha hx hb hy ht hn hab h1 h2 hOS hroot hr hi' hn'
  refine (callsIn_wide (n := 3)).1 ?_
  refine callsIn_of_wp_marks Tryd.func19 rfl trivial ?_ rfl
  simp only [Tryd.ntmps19, List.size_toArray, List.length_cons, List.length_nil, Nat.reduceAdd, Nat.reduceSub, Array.replicate_succ, Array.replicate_zero, List.push_toArray, List.append_toArray, List.nil_append, List.cons_append]
  gi_wp2_with (first
    | (refine ⟨trivial, ?_⟩; gi_at_call 34; (try simp only [World.size_alloc]); (try rw [hW0]); refine (callsIn_wide.2 heq).mono ?_; clear heq hW0; rintro _ _ ⟨rfl, rfl⟩)
    | (refine ⟨trivial, ?_⟩; gi_at_call 17; refine (callsIn_wide.2 hc1).mono ?_; clear hc1; rintro _ w1 ⟨rfl, hb1⟩; have H1 := twoBox H0.out hb1; have hc2 := check_any root HOS.out.2.2 n' i' HA.out.2.2.2.2.2 (HA.out.2.2.1.below H1.out.1) (HA.out.2.2.2.1.below H1.out.1) (HA.out.2.2.2.2.1.below H1.out.1); rw [HI.out.2.2.2.2, ← HOS.out.1] at hc2; clear hb1)
    | (refine ⟨trivial, ?_⟩; gi_at_call 17; refine (callsIn_wide.2 hc2).mono ?_; clear hc2; rintro _ w2 ⟨rfl, hb2⟩; have H2 := twoBox2 H1 hb2; clear hb2)
    | (refine ⟨trivial, ?_⟩; gi_at_call 32; refine (callsIn_wide.2 (climb_any n' i' A na ca Ax nx cx _)).mono ?_; rintro _ _ ⟨rfl, rfl⟩)
    | (refine wpListIn_load_row_on (by rfl) 31 (.tmp 7) (by rfl) w.heap.size (by rfl) 31 OS (0, 0) _ H0.out.2.2.1 Tryd.underlying31 (by rfl) (by rw [HOS.out.2.1]; exact id_info) ?_)
    | (refine wpListIn_load_row_on (by rfl) 31 (.tmp 7) (by rfl) w.heap.size (by rfl) 31 OS (0, 0) _ H1.out.2.1 Tryd.underlying31 (by rfl) (by rw [HOS.out.2.1]; exact id_info) ?_)
    | (refine ⟨trivial, ?_⟩; gi_step))
  obtain ⟨q17, hq17⟩ : ∃ q, w2.heap.size = q := ⟨_, rfl⟩
  obtain ⟨W1, hW1⟩ : ∃ W1, ((((w2.alloc (.cells #[.slice none 0 0] 70)).alloc (.cells #[.int .i64 (n' : Int)] 3)).alloc (.cells #[.int .i64 (i' : Int)] 3)).alloc (.cells #[.slice A na ca] 22)).alloc (.cells #[.slice Ax nx cx] 24) = W1 := ⟨_, rfl⟩
  have hsz : W1.heap.size = w2.heap.size + 5 := by rw [← hW1]; simp
  have hb21 : Below w2.heap.size w2 W1 := by rw [← hW1]; exact (((((Below.refl _ _).alloc (Nat.le_refl _) _).alloc (by simp) _).alloc (by simp <;> omega) _).alloc (by simp <;> omega) _).alloc (by simp <;> omega) _
  have hx11 : Boxed W1 w2.heap.size 70 (.slice none 0 0) := by
    rw [← hW1]
    exact ((((Boxed.new w2 70 (.slice none 0 0)).alloc _).alloc _).alloc _).alloc _
  have hx12 : W1.heap[w2.heap.size + 1]? = some (.cells #[.int .i64 (n' : Int)] 3 (0, 0)) := by
    have h := heap_alloc_new (w2.alloc (.cells #[.slice none 0 0] 70)) (.cells #[.int .i64 (n' : Int)] 3)
    rw [World.size_alloc] at h
    rw [← hW1]
    exact (Below.heap_alloc _ _ _ (by simp <;> omega)).trans ((Below.heap_alloc _ _ _ (by simp <;> omega)).trans ((Below.heap_alloc _ _ _ (by simp)).trans h))
  have hx13 : W1.heap[w2.heap.size + 1 + 1]? = some (.cells #[.int .i64 (i' : Int)] 3 (0, 0)) := by
    have h := heap_alloc_new ((w2.alloc (.cells #[.slice none 0 0] 70)).alloc (.cells #[.int .i64 (n' : Int)] 3)) (.cells #[.int .i64 (i' : Int)] 3)
    simp only [World.size_alloc] at h
    rw [← hW1]
    exact (Below.heap_alloc _ _ _ (by simp <;> omega)).trans ((Below.heap_alloc _ _ _ (by simp)).trans h)
  have hx14 : W1.heap[w2.heap.size + 1 + 2]? = some (.cells #[.slice A na ca] 22 (0, 0)) := by
    have h := heap_alloc_new (((w2.alloc (.cells #[.slice none 0 0] 70)).alloc (.cells #[.int .i64 (n' : Int)] 3)).alloc (.cells #[.int .i64 (i' : Int)] 3)) (.cells #[.slice A na ca] 22)
    simp only [World.size_alloc] at h
    rw [← hW1]
    exact (Below.heap_alloc _ _ _ (by simp)).trans h
  have hx15 : W1.heap[w2.heap.size + 1 + 3]? = some (.cells #[.slice Ax nx cx] 24 (0, 0)) := by
    have h := heap_alloc_new ((((w2.alloc (.cells #[.slice none 0 0] 70)).alloc (.cells #[.int .i64 (n' : Int)] 3)).alloc (.cells #[.int .i64 (i' : Int)] 3)).alloc (.cells #[.slice A na ca] 22)) (.cells #[.slice Ax nx cx] 24)
    simp only [World.size_alloc] at h
    rw [← hW1]
    exact h
  simp only [hW1]
  clear hW1 hd
  have hb1 := H2.out.1.trans (hb21.mono H2.out.1.size)
  have hqw : w.heap.size + 1 + 1 + 1 < w2.heap.size := H2.out.2.2.2.2.lt
  have H3 := Lib.hid (And.intro hsz (And.intro hb21 (And.intro hb1 hqw)))
  have HI0 : Hid (TwI w2 W1.heap.size (fun _ => False) [] W1) := Lib.hid ⟨hb21, _, hx11, World.ownsRow_nil _ _ _ _, fun _ _ h => h⟩
  have hla : na ≤ 1000000 := by
    have h1 := HA.out.1.len
    have h2 := HLN.out.1.2.1
    omega
  have hte := HA.out.2.2.2.2.1
  have hit := climb_iter n' i' HI.out.2.1 HI.out.1 (LS := S) (WS := fun b => b < w.heap.size) (K := fun b => b < w.heap.size ∨ b = w2.heap.size + 1 ∨ b = w2.heap.size + 1 + 1 ∨ b = w2.heap.size + 1 + 3) (w2.heap.size + 1) HLN.out.1.1.symm hx12 hx13 hx14 hx15 ((HA.out.2.1.mono (T := fun b => b < w.heap.size) fun b hb _ => hb).below hb1) (hte.below hb1) (HA.out.1.below hb1) hla (fun b hb => by omega) ⟨.inr (.inl rfl), .inr (.inr (.inl rfl)), .inr (.inr (.inr rfl))⟩ (fun b hb => .inl hb) (fun b hb => by have h1 := hte.lt1; have h2 := hte.lt2; unfold tabK at hb; omega)
  obtain ⟨j0, hj, hj0, hj1, hj2⟩ := info_parts byt_info4
  have HJ := Lib.hid (And.intro hj (And.intro hj0 (And.intro hj1 hj2)))
  have HTE := Lib.hid hte
  clear hj hj0 hj1 hj2 hsz hb1 hb21 hx11 hx12 hx13 hx14 hx15 hla hqw hte hq17 H1
  refine wpIn_rangeFunc_it (gf := 48) (lb := #[.pointer (some ⟨w2.heap.size + 1 + 2, 0, none⟩), .pointer (some ⟨w2.heap.size + 1, 0, none⟩), .pointer (some ⟨w2.heap.size + 1 + 1, 0, none⟩), .pointer (some ⟨w2.heap.size + 1 + 3, 0, none⟩)]) rfl (enters_of Tryd.func48 (by kernel_rfl) rfl) hit (Below.refl _ _) (fun b hb => by have h1 := H3.out.1; have h2 := H3.out.2.2.2; omega) (fun _ => rfl)
    (TwI w2 W1.heap.size) (fun _ _ _ _ => False) (TwI.still w2 (by have := H3.out.1; omega)) (fun _ => still_false _) HI0.out
    (fun x a' _ => a' = { tmps := #[.agg OS, .int .i64 (n' : Int), .int .i64 (i' : Int), .slice A na ca, .slice Ax nx cx, .slice B nb cb, .slice By ny cy, .pointer (some ⟨w.heap.size, 0, none⟩), undef, undef, undef, undef, undef, undef, .pointer (some ⟨w.heap.size + 1, 0, none⟩), .pointer (some ⟨w.heap.size + 1 + 1, 0, none⟩), .pointer (some ⟨w.heap.size + 1 + 1 + 1, 0, none⟩), .pointer (some ⟨w2.heap.size, 0, none⟩), .slice x.1.1 x.1.2.1 x.1.2.2, undef, undef, .slice A na ca, .slice B nb cb, .bool false, .bool false, .agg OS, .int .i64 (n' : Int), .int .i64 (i' : Int), .slice A na ca, .slice Ax nx cx, .int .i64 0, .bool false, .bool false, .bool false, .agg OS, .int .i64 (n' : Int), .int .i64 (i' : Int), .slice B nb cb, .slice By ny cy, .int .i64 0, .bool false, .bool false, .int .i64 (n' : Int), .int .i64 (i' : Int), .slice A na ca, .slice Ax nx cx, climbFn (w2.heap.size + 1), .slice x.1.1 x.1.2.1 x.1.2.2, .agg (row8 x.2), undef, undef, undef, undef, undef, undef, undef, undef, undef, undef, undef, undef, undef, undef, undef, undef, undef, undef, undef, undef, undef, undef, undef, undef], defers := [] }) (fun _ _ => ownFrom_pure _ _) ?assign ?body ?done ?stop
  case assign =>
    intro l' D pre x W' C _ hi _ hC
    simp only [clE]
    have HC : Hid (∀ a', a' = _ → C a' W') := Lib.hid fun a' ha => hC a' W' (Kept.refl _ _ _ _) hi ha
    generalize row8 x.2 = XS at HC ⊢
    clear hC hi
    gi_wp2
    exact HC.out _ (by simp)
  case stop =>
    intro E D c pre W _ _ _ _ h _
    exact h.elim
  case body =>
    rintro l' D pre ⟨⟨Ax1, nx1, cx1⟩, X⟩ a' W' hl hws hBd ⟨hbl, v, hv, hrow, hnd⟩ hX rfl
    obtain ⟨va, vl, vc, rfl⟩ := own_slice2 hrow
    have hpl : pre.length < (climbRows n' i' a x).length := by
      have := hX.1
      simp at this
      omega
    have hrs : (climbRows n' i' a x).length ≤ 100000000000 := by
      rw [climbRows_length HLN.out.1.1.symm, HLN.out.1.1]
      have := bes_log 63 n' 0 i' (by have := HI.out.2.1; omega)
      omega
    have hals : (W'.alloc (.cells #[.slice Ax1 nx1 cx1] 22)).heap.size = W'.heap.size + 1 := by simp
    have hba : Below W'.heap.size W' (W'.alloc (.cells #[.slice Ax1 nx1 cx1] 22)) := (Below.refl _ _).alloc (Nat.le_refl _) _
    obtain ⟨g2, cap2, w4, hrun, hown2, hgr, hat, _⟩ := run_append_lies (P := Tryd.prog) (W'.alloc (.cells #[.slice Ax1 nx1 cx1] 22)) 70 70 W1.heap.size 22 j0 (.slice none 0 0) 1 24 Tryd.underlying70 HJ.out.1 HJ.out.2.1 HJ.out.2.2.1 HJ.out.2.2.2 rfl (by decide) _ pre.length (pre.map sl4) (hrow.alloc _) ⟨W'.heap.size, 0, none⟩ 1 1 [.slice Ax1 nx1 cx1] rfl (cell_one_new _ _ _) (one_of rfl) (by omega) (by unfold maxLen; omega) (by omega) (by have := hbl.size; simp; omega) (W'.heap.size + 1) hals
    have hvlt : w2.heap.size < W'.heap.size := hv.lt
    have hne : ∀ g, (Value.slice va vl vc).ownBlock = some g → g ≠ w2.heap.size := fun g hg e => by
      have := (own_lt hrow hg).1
      have := H3.out.1
      omega
    have hv2 : Boxed w4 w2.heap.size 70 (.slice va vl vc) := (hgr.block _ (by rw [hals]; omega) (fun e => hne _ e.symm rfl)).trans (hv.alloc _)
    have hg2 : ¬ D g2 ∧ g2 ≠ w2.heap.size := by
      rcases hat with hat | hat
      · exact ⟨hnd g2 hat, hne g2 hat⟩
      · exact ⟨fun hd => by have := (hBd g2 hd).2; omega, by omega⟩
    have hk2 : Kept W1.heap.size D (fun b => b < w.heap.size ∨ b = w2.heap.size + 1 ∨ b = w2.heap.size + 1 + 1 ∨ b = w2.heap.size + 1 + 3) W' w4 := (Kept.of_below hba).trans (Kept.of_gr hgr (fun g hg => by
      obtain ⟨h1, h2, cs, f, hc⟩ := own_lt (hrow.alloc (.cells #[.slice Ax1 nx1 cx1] 22)) hg
      exact ⟨hnd g hg, fun hb => by
        have h3 := H3.out.1
        have h4 := H3.out.2.2.2
        omega, _, _, _, hc⟩))
    have hb2 : Below w2.heap.size w2 w4 := (hbl.alloc hbl.size _).grown hgr (by have := hbl.size; simp; omega) (fun g hg => by have := (own_lt hrow hg).1; have := H3.out.1; omega)
    have hc8 := hv2.cell
    have hf8 := hv2.frozen
    have hcv := hv.cell
    have HB := Lib.hid (And.intro hv2 (And.intro hown2 (And.intro hg2 (And.intro hk2 (And.intro hb2 hBd)))))
    clear hv hrow hnd hX hals hba hown2 hgr hat hvlt hne hv2 hg2 hk2 hb2 hbl hBd hpl hrs
    generalize row8 X = XS
    gi_wp2_with (gi_at_builtin; refine wpListIn_app (by rfl) _ _ 70 (by rfl) (by rfl) (by rfl) hrun ?_)
    refine ⟨HB.out.2.2.2.1.trans (Kept.of_gr (row := some w2.heap.size) (grownBy_setCell' w4 w2.heap.size _) (fun g e => by
      injection e with e
      subst e
      exact ⟨fun hd => by have h1 := (HB.out.2.2.2.2.2 _ hd).1; have h2 := H3.out.1; omega, fun hb => by
        have h4 := H3.out.2.2.2
        omega, _, _, _, HB.out.1⟩)), HB.out.2.2.2.2.1.setCell (Nat.le_refl _) _, _, HB.out.1.set _, ?_, fun g hg => ?_⟩
    · have h1 := ownsRow_setCell_other HB.out.2.1 (a := ⟨w2.heap.size, 0, none⟩) (by simp [Value.ownBlock]; exact HB.out.2.2.1.2) (.slice (some ⟨g2, 0, none⟩) (pre.length + 1) cap2)
      simpa [sl4] using h1
    · obtain rfl : g2 = g := by simpa [Value.ownBlock] using hg
      exact HB.out.2.2.1.1
  case done =>
    rintro E D xs W' hE hws hBd hxl hX ⟨hbl, v, hv, hrow, _⟩ hK
    have hpos : 0 < xs.length := by rw [hxl, climbRows_length HLN.out.1.1.symm]; omega
    obtain ⟨ga, capa, rfl, _, hga⟩ := hrow.form hpos
    have HD := Lib.hid (And.intro hE (And.intro hws (And.intro hBd (And.intro hxl (And.intro hX (And.intro hbl (And.intro hv (And.intro hrow hK))))))))
    clear hE hws hBd hxl hX hbl hv hrow hK hpos hga
    gi_wp2_with (refine ⟨trivial, ?_⟩; gi_at_call 32; refine (callsIn_wide.2 (climb_any n' i' B nb cb By ny cy _)).mono ?_; rintro _ _ ⟨rfl, rfl⟩)
    obtain ⟨W2, hW2⟩ : ∃ W2, ((((W'.alloc (.cells #[.int .i64 0] 3)).alloc (.cells #[.int .i64 (n' : Int)] 3)).alloc (.cells #[.int .i64 (i' : Int)] 3)).alloc (.cells #[.slice B nb cb] 22)).alloc (.cells #[.slice By ny cy] 24) = W2 := ⟨_, rfl⟩
    have hsz : W2.heap.size = W'.heap.size + 5 := by rw [← hW2]; simp
    have hb21 : Below W'.heap.size W' W2 := by rw [← hW2]; exact (((((Below.refl _ _).alloc (Nat.le_refl _) _).alloc (by simp) _).alloc (by simp <;> omega) _).alloc (by simp <;> omega) _).alloc (by simp <;> omega) _
    have hx11 : Boxed W2 W'.heap.size 3 (.int .i64 0) := by
      rw [← hW2]
      exact ((((Boxed.new W' 3 (.int .i64 0)).alloc _).alloc _).alloc _).alloc _
    have hx12 : W2.heap[W'.heap.size + 1]? = some (.cells #[.int .i64 (n' : Int)] 3 (0, 0)) := by
      have h := heap_alloc_new (W'.alloc (.cells #[.int .i64 0] 3)) (.cells #[.int .i64 (n' : Int)] 3)
      rw [World.size_alloc] at h
      rw [← hW2]
      exact (Below.heap_alloc _ _ _ (by simp <;> omega)).trans ((Below.heap_alloc _ _ _ (by simp <;> omega)).trans ((Below.heap_alloc _ _ _ (by simp)).trans h))
    have hx13 : W2.heap[W'.heap.size + 1 + 1]? = some (.cells #[.int .i64 (i' : Int)] 3 (0, 0)) := by
      have h := heap_alloc_new ((W'.alloc (.cells #[.int .i64 0] 3)).alloc (.cells #[.int .i64 (n' : Int)] 3)) (.cells #[.int .i64 (i' : Int)] 3)
      simp only [World.size_alloc] at h
      rw [← hW2]
      exact (Below.heap_alloc _ _ _ (by simp <;> omega)).trans ((Below.heap_alloc _ _ _ (by simp)).trans h)
    have hx14 : W2.heap[W'.heap.size + 1 + 2]? = some (.cells #[.slice B nb cb] 22 (0, 0)) := by
      have h := heap_alloc_new (((W'.alloc (.cells #[.int .i64 0] 3)).alloc (.cells #[.int .i64 (n' : Int)] 3)).alloc (.cells #[.int .i64 (i' : Int)] 3)) (.cells #[.slice B nb cb] 22)
      simp only [World.size_alloc] at h
      rw [← hW2]
      exact (Below.heap_alloc _ _ _ (by simp)).trans h
    have hx15 : W2.heap[W'.heap.size + 1 + 3]? = some (.cells #[.slice By ny cy] 24 (0, 0)) := by
      have h := heap_alloc_new ((((W'.alloc (.cells #[.int .i64 0] 3)).alloc (.cells #[.int .i64 (n' : Int)] 3)).alloc (.cells #[.int .i64 (i' : Int)] 3)).alloc (.cells #[.slice B nb cb] 22)) (.cells #[.slice By ny cy] 24)
      simp only [World.size_alloc] at h
      rw [← hW2]
      exact h
    try simp only [World.size_alloc]
    rw [hW2]
    clear hW2 hit HI0
    have hb02 : Below w.heap.size w W' := H2.out.1.trans (HD.out.2.2.2.2.2.1.mono H2.out.1.size)
    have hb1 : Below w.heap.size w W2 := hb02.trans (hb21.mono hb02.size)
    have hqw : w2.heap.size + 5 + 2 ≤ W'.heap.size := by have h1 := HD.out.2.1; have h2 := H3.out.1; omega
    have H4 := Lib.hid (And.intro hsz (And.intro hb21 (And.intro hb1 (And.intro hqw hb02))))
    have HJ0 : Hid (TwJ W' (climbRows n' i' a x) (climbRows n' i' b y) (fun _ => False) [] W2) := Lib.hid ⟨hb21, hx11, fun k hk => absurd hk (by simp)⟩
    have hla : nb ≤ 1000000 := by
      have h1 := HA.out.2.2.1.len
      have h2 := HLN.out.2.2.1
      omega
    have hwl := H3.out.2.2.2
    have hit := climb_iter n' i' HI.out.2.1 HI.out.1 (LS := S2) (WS := fun b => b < w.heap.size) (K := fun b => b < w.heap.size ∨ b = W'.heap.size + 1 ∨ b = W'.heap.size + 1 + 1 ∨ b = W'.heap.size + 1 + 3) (W'.heap.size + 1) HLN.out.2.1.symm hx12 hx13 hx14 hx15 ((HA.out.2.2.2.1.mono (T := fun b => b < w.heap.size) fun b hb _ => hb).below hb1) (HTE.out.below hb1) (HA.out.2.2.1.below hb1) hla (fun b hb => by omega) ⟨.inr (.inl rfl), .inr (.inr (.inl rfl)), .inr (.inr (.inr rfl))⟩ (fun b hb => .inl hb) (fun b hb => by have h1 := HTE.out.lt1; have h2 := HTE.out.lt2; unfold tabK at hb; omega)
    clear hsz hb1 hb21 hx11 hx12 hx13 hx14 hx15 hla hqw hwl hb02
    refine wpIn_rangeFunc_it (gf := 48) (lb := #[.pointer (some ⟨W'.heap.size + 1 + 2, 0, none⟩), .pointer (some ⟨W'.heap.size + 1, 0, none⟩), .pointer (some ⟨W'.heap.size + 1 + 1, 0, none⟩), .pointer (some ⟨W'.heap.size + 1 + 3, 0, none⟩)]) rfl (enters_of Tryd.func48 (by kernel_rfl) rfl) hit (Below.refl _ _) (fun b hb => by have h1 := H4.out.1; have h2 := H4.out.2.2.2.2.size; omega) (fun _ => rfl)
      (TwJ W' (climbRows n' i' a x) (climbRows n' i' b y)) (TwX W' (w.heap.size + 1) (climbRows n' i' a x) (climbRows n' i' b y) xs) (TwJ.still W' _ _ (by have := H4.out.1; omega)) (fun c => TwX.still W' _ _ _ xs c (by have := H4.out.1; omega) (by have h1 := H4.out.2.2.2.1; have h2 := H3.out.2.2.2; omega)) HJ0.out
      (fun x a' _ => a' = { tmps := #[.agg OS, .int .i64 (n' : Int), .int .i64 (i' : Int), .slice A na ca, .slice Ax nx cx, .slice B nb cb, .slice By ny cy, .pointer (some ⟨w.heap.size, 0, none⟩), undef, undef, undef, undef, undef, undef, .pointer (some ⟨w.heap.size + 1, 0, none⟩), .pointer (some ⟨w.heap.size + 1 + 1, 0, none⟩), .pointer (some ⟨w.heap.size + 1 + 1 + 1, 0, none⟩), .pointer (some ⟨w2.heap.size, 0, none⟩), undef, .pointer (some ⟨W'.heap.size, 0, none⟩), .slice x.1.1 x.1.2.1 x.1.2.2, .slice A na ca, .slice B nb cb, .bool false, .bool false, .agg OS, .int .i64 (n' : Int), .int .i64 (i' : Int), .slice A na ca, .slice Ax nx cx, .int .i64 0, .bool false, .bool false, .bool false, .agg OS, .int .i64 (n' : Int), .int .i64 (i' : Int), .slice B nb cb, .slice By ny cy, .int .i64 0, .bool false, .bool false, .int .i64 (n' : Int), .int .i64 (i' : Int), .slice A na ca, .slice Ax nx cx, climbFn (w2.heap.size + 1), undef, undef, undef, undef, undef, undef, .int .i64 (n' : Int), .int .i64 (i' : Int), .slice B nb cb, .slice By ny cy, climbFn (W'.heap.size + 1), .slice x.1.1 x.1.2.1 x.1.2.2, .agg (row8 x.2), undef, undef, undef, undef, undef, undef, undef, undef, undef, undef, undef, undef, undef], defers := [] }) (fun _ _ => ownFrom_pure _ _) ?assign2 ?body2 ?done2 ?stop2
    case assign2 =>
      intro l' D pre x W'' C _ hi _ hC
      simp only [clE]
      have HC : Hid (∀ a', a' = _ → C a' W'') := Lib.hid fun a' ha => hC a' W'' (Kept.refl _ _ _ _) hi ha
      generalize row8 x.2 = XS at HC ⊢
      clear hC hi
      gi_wp2
      exact HC.out _ (by simp)
    case done2 =>
      rintro E2 D2 ys W3 hE2 hws2 hBd2 hyl _ ⟨hbl, hk, hall⟩ hK2
      obtain ⟨k, hk, htw⟩ := HCL.out
      rw [hall k (by rw [hyl, climbRows_length HLN.out.2.1.symm, HLN.out.2.1]; rw [climbRows_length HLN.out.1.1.symm, HLN.out.1.1] at hk; exact hk)] at htw
      cases htw
    case stop2 =>
      rintro E2 D2 c pre W3 hE2 hws2 hBd2 hX2 ⟨rfl, hT, k, ⟨⟨A6, n6, c6⟩, X6⟩, ⟨⟨A7, n7, c7⟩, X7⟩, hpl, hxk, hyk, htw, hb6, hb7, hb8⟩ hK2
      have hz := HD.out.2.2.2.2.1.2 k _ hxk
      have hy := hX2.2 k _ hyk
      have e0 := HD.out.1
      have e1 := H3.out.1
      have e2 := H3.out.2.2.2
      have e3 := H4.out.1
      have e4 := H4.out.2.2.2.1
      have hb3 : Byt W3 (w.heap.size ≤ ·) A6 n6 c6 ((climbRows n' i' a x)[k]?.getD []) := (hz.1.turned hT (fun b hlt hb hn => by have := (HD.out.2.2.1 b hb).1; omega)).mono fun b _ hb => by have := (HD.out.2.2.1 b hb).1; omega
      have hb4 : Byt W3 (w.heap.size ≤ ·) A7 n7 c7 ((climbRows n' i' b y)[k]?.getD []) := hy.1.mono fun b _ hb => by have := (hBd2 b hb).1; omega
      have hEk : W3.heap[E]? = some (.deferred (some [])) := (hT.block E (by omega) (by omega)).trans HD.out.2.2.2.2.2.2.2.2
      have hbw : Below w.heap.size w W3 := H4.out.2.2.2.2.trans ((hT.mono (T := (w.heap.size ≤ ·)) fun b _ hb => by omega).below (by omega))
      have hl1 := climbRows_short (n := n') (i := i') HLN.out.1.2.1 HA.out.2.1.each k
      have hl2 := climbRows_short (n := n') (i := i') HLN.out.2.2.1 HA.out.2.2.2.1.each k
      have hne : E ≠ E2 := by omega
      have HF := Lib.hid (And.intro hb3 (And.intro hb4 (And.intro hEk (And.intro hbw (And.intro hl1 (And.intro hl2 (And.intro hne (And.intro hK2 (And.intro hb6 (And.intro hb7 (And.intro hb8 (And.intro htw hE2))))))))))))
      clear hz hy e0 e1 e2 e3 e4 hb3 hb4 hEk hbw hl1 hl2 hne hK2 hb6 hb7 hb8 htw hE2 hT hX2 hBd2 hws2 hpl hxk hyk
      gi_wp2
      have hE' : (W3.putObj E2 (.deferred none)).heap[E]? = some (.deferred (some [])) := (World.putObj_heap_other HF.out.2.2.2.2.2.2.1).trans HF.out.2.2.1
      refine ⟨by simp, .inl ⟨_, _, rfl, run_takeDeferred HF.out.2.2.2.2.2.2.2.1, ?_⟩⟩
      refine ⟨by simp, .inl ⟨_, _, rfl, run_takeDeferred hE', ?_⟩⟩
      have hS1 : Steps 0 (fun _ => False) W3 (W3.putObj E2 (.deferred none)) := Steps.putObj _ (Nat.zero_le _) HF.out.2.2.2.2.2.2.2.1 rfl
      have hS2 : Steps 0 (fun _ => False) (W3.putObj E2 (.deferred none)) ((W3.putObj E2 (.deferred none)).putObj E (.deferred none)) := Steps.putObj _ (Nat.zero_le _) hE' rfl
      have hS : Steps 0 (fun _ => False) W3 ((W3.putObj E2 (.deferred none)).putObj E (.deferred none)) := ⟨hS2.os.trans hS1.os, hS2.tape.trans hS1.tape, hS2.output.trans hS1.output, Nat.le_trans hS1.size hS2.size, fun b hb hd hc => (hS2.block b (Nat.lt_of_lt_of_le hb hS1.size) hd (by
        rcases hc with hc | ⟨o, h1, h2⟩
        · exact .inl hc
        · exact .inr ⟨o, (hS1.block b hb hd (.inr ⟨o, h1, h2⟩)).trans h1, h2⟩)).trans (hS1.block b hb hd hc)⟩
      refine ⟨_, results_cells3 rfl _ _ _ _ _ rfl rfl rfl (run_loadVar_slice8 (hS.boxed HF.out.2.2.2.2.2.2.2.2.1 (fun h => h))) (run_loadVar_slice8 (hS.boxed HF.out.2.2.2.2.2.2.2.2.2.1 (fun h => h))) (run_loadVar_bool (hS.boxed HF.out.2.2.2.2.2.2.2.2.2.2.1 (fun h => h))), A6, n6, c6, A7, n7, c7, _, _, true, rfl, HF.out.1.steps hS (fun _ _ h => h), HF.out.2.1.steps hS (fun _ _ h => h), ⟨?_, fun h => (by cases h), fun _ => ⟨HF.out.2.2.2.2.2.2.2.2.2.2.2.1, HF.out.2.2.2.2.1, HF.out.2.2.2.2.2.1⟩⟩, ?_⟩
      · simp [HI.out.2.2.1, HI.out.2.2.2.1, HI.out.2.2.2.2]
      · have h1 := HF.out.2.2.2.2.2.2.2.2.2.2.2.2
        have h2 := H4.out.1
        have h3 := H4.out.2.2.2.2.size
        have h4 := HD.out.1
        have h5 := H3.out.1
        have h6 := H3.out.2.2.2
        exact (HF.out.2.2.2.1.trans (belowK_b (w := w) (Nat.le_refl _) W3 E2 _ _ (by omega) HF.out.2.2.2.2.2.2.2.1 rfl rfl)).trans (belowK_b (w := w) (Nat.le_refl _) _ E _ _ (by omega) hE' rfl rfl)
    case body2 =>
      rintro l' D2 pre ⟨⟨A5, n5, c5⟩, X⟩ a' W'' hl hws hBd2 ⟨hbl2, hk19, hall⟩ hX2 rfl
      obtain ⟨KK, hKK⟩ : ∃ KK, KK = pre.length := ⟨_, rfl⟩
      obtain ⟨NN, hNN⟩ : ∃ NN, NN = xs.length := ⟨_, rfl⟩
      have hkl : pre.length < (climbRows n' i' b y).length := by
        have := hX2.1
        simp at this
        omega
      have hkx : KK < NN := by
        rw [hKK, hNN, HD.out.2.2.2.1, climbRows_length HLN.out.1.1.symm, HLN.out.1.1]
        rw [climbRows_length HLN.out.2.1.symm, HLN.out.2.1] at hkl
        exact hkl
      have hk63 : KK + 1 < 100000000000 := by
        have := bes_log 63 n' 0 i' (by have := HI.out.2.1; omega)
        rw [hKK]
        rw [climbRows_length HLN.out.2.1.symm, HLN.out.2.1] at hkl
        omega
      obtain ⟨z, hz⟩ : ∃ z, xs[KK]? = some z := ⟨_, List.getElem?_eq_getElem (by omega)⟩
      have hb1 := (HD.out.2.2.2.2.1.2 KK z hz).1.below hbl2
      have hb2 := (hX2.2 pre.length _ (by simp; rfl)).1
      obtain ⟨⟨A4, n4, c4⟩, X4⟩ := z
      simp only at hb1 hb2
      rw [← hKK] at hb2
      have hrow := HD.out.2.2.2.2.2.2.2.1
      have hc0 : W'.cell? ⟨ga, KK, none⟩ = some (.slice A4 n4 c4) := by
        rw [hrow.cellAt KK (by omega), List.getElem?_map, hz]
        rfl
      have hga : ga < W'.heap.size := (own_lt hrow (g := ga) rfl).2.1
      have hck : W''.cell? ⟨ga, KK, none⟩ = some (.slice A4 n4 c4) := (hbl2.cell (p := ⟨_, _, none⟩) hga).trans hc0
      have hb17 : Boxed W'' w2.heap.size 70 (.slice (some ⟨ga, 0, none⟩) xs.length capa) := (hbl2.block _ HD.out.2.2.2.2.2.2.1.lt).trans HD.out.2.2.2.2.2.2.1
      rw [← hNN] at hb17
      rw [← hKK] at hk19
      have hc17 := hb17.cell
      have hc19 := hk19.cell
      have hlt : (KK : Int) < (NN : Int) := by omega
      have htw := two_any (hb1.mono (T := fun _ => True) fun _ _ _ => trivial) (hb2.mono (T := fun _ => True) fun _ _ _ => trivial) (HTE.out.below (H4.out.2.2.2.2.trans (hbl2.mono H4.out.2.2.2.2.size))) (by have := climbRows_short (n := n') (i := i') HLN.out.1.2.1 HA.out.2.1.each KK; omega) (by have := climbRows_short (n := n') (i := i') HLN.out.2.2.1 HA.out.2.2.2.1.each KK; omega)
      obtain ⟨TB, hTB⟩ : ∃ TB, TB = twoB ((climbRows n' i' a x)[KK]?.getD []) ((climbRows n' i' b y)[KK]?.getD []) := ⟨_, rfl⟩
      rw [← hTB] at htw
      have HB := Lib.hid (And.intro hKK (And.intro hNN (And.intro hTB (And.intro hz (And.intro hbl2 (And.intro hb17 (And.intro hk19 (And.intro hall (And.intro hck (And.intro hBd2 hk63))))))))))
      clear hKK hNN hkl hb1 hb2 hrow hc0 hga hb17 hk19 hbl2 hall hX2 hBd2 hz hTB hkx
      generalize row8 X = XS
      have HW5 : ∀ w5, Below W''.heap.size W'' w5 → Hid (Below W'.heap.size W' w5 ∧ Boxed w5 w2.heap.size 70 (.slice (some ⟨ga, 0, none⟩) NN capa) ∧ Boxed w5 W'.heap.size 3 (.int .i64 (KK : Int)) ∧ w5.cell? ⟨ga, KK, none⟩ = some (.slice A4 n4 c4) ∧ Kept W2.heap.size D2 (fun b => b < w.heap.size ∨ b = W'.heap.size + 1 ∨ b = W'.heap.size + 1 + 1 ∨ b = W'.heap.size + 1 + 3) W'' w5) := fun w5 hb5 => Lib.hid ⟨HB.out.2.2.2.2.1.trans (hb5.mono HB.out.2.2.2.2.1.size), (hb5.block _ HB.out.2.2.2.2.2.1.lt).trans HB.out.2.2.2.2.2.1, (hb5.block _ HB.out.2.2.2.2.2.2.1.lt).trans HB.out.2.2.2.2.2.2.1, (hb5.cell (p := ⟨_, _, none⟩) (by obtain ⟨o, ho, _⟩ := cells_of_cell HB.out.2.2.2.2.2.2.2.2.1; exact (Array.getElem?_eq_some_iff.1 ho).1)).trans HB.out.2.2.2.2.2.2.2.2.1, Kept.of_below hb5⟩
      cases TB
      · have hadd := IntWalk.i64_in ((KK : Int) + 1) (by have := HB.out.2.2.2.2.2.2.2.2.2.2; omega)
        gi_wp2_with (refine ⟨trivial, ?_⟩; gi_at_call 35; refine (callsIn_wide.2 htw).mono ?_; clear htw; rintro _ w5 ⟨rfl, hb5⟩; have H5 := HW5 w5 hb5; clear HW5 hb5; have hc19' := H5.out.2.2.1.cell; have hf19' := H5.out.2.2.1.frozen)
        refine ⟨H5.out.2.2.2.2.trans (Kept.of_gr (row := some W'.heap.size) (grownBy_setCell' w5 W'.heap.size _) (fun g e => by
          injection e with e
          subst e
          exact ⟨fun hd => by have h1 := (HB.out.2.2.2.2.2.2.2.2.2.1 _ hd).1; have h2 := H4.out.1; omega, fun hb => by
            have h4 := H4.out.2.2.2.2.size
            omega, _, _, _, H5.out.2.2.1⟩)), H5.out.1.setCell (Nat.le_refl _) _, ?_, ?_⟩
        · have h1 := H5.out.2.2.1.set (.int .i64 ((KK : Int) + 1))
          rw [List.length_append, List.length_singleton, ← HB.out.1]
          exact h1
        · intro k hk
          rw [List.length_append, List.length_singleton, ← HB.out.1] at hk
          rcases Nat.lt_or_ge k KK with hlt | hge
          · exact HB.out.2.2.2.2.2.2.2.1 k (by rw [← HB.out.1]; exact hlt)
          · obtain rfl : k = KK := by omega
            exact HB.out.2.2.1.symm
      · have HBX : Hid (∀ w5, Below W'.heap.size W' w5 → Boxed w5 (w.heap.size + 1) 22 (.slice none 0 0) ∧ Boxed w5 (w.heap.size + 1 + 1) 22 (.slice none 0 0) ∧ Boxed w5 (w.heap.size + 1 + 1 + 1) 4 (.bool false)) := Lib.hid fun w5 hb => by
          have h1 := HD.out.2.2.2.2.2.1.trans (hb.mono HD.out.2.2.2.2.2.1.size)
          exact ⟨(h1.block _ H2.out.2.2.1.lt).trans H2.out.2.2.1, (h1.block _ H2.out.2.2.2.1.lt).trans H2.out.2.2.2.1, (h1.block _ H2.out.2.2.2.2.lt).trans H2.out.2.2.2.2⟩
        gi_wp2_with (first
          | (refine ⟨trivial, ?_⟩; gi_at_call 35; refine (callsIn_wide.2 htw).mono ?_; clear htw; rintro _ w5 ⟨rfl, hb5⟩; have H5 := HW5 w5 hb5; clear HW5 hb5; have hc17' := H5.out.2.1.cell; have hc19' := H5.out.2.2.1.cell; have hck' := H5.out.2.2.2.1)
          | (refine wpListIn_store_three (w.heap.size + 1) (.slice A4 n4 c4) (.slice A5 n5 c5) (.bool true) (by rfl) (by rfl) (by rfl) _ _ _ _ _ _ (by rfl) (by rfl) (by rfl) (by rfl) (by rfl) (by rfl) (by rfl) (by rfl) (by rfl) (by rfl) (by rfl) (by rfl) (by rfl) (by rfl) (by rfl) (HBX.out w5 H5.out.1).1 (HBX.out w5 H5.out.1).2.1 (HBX.out w5 H5.out.1).2.2 ?_; rintro w9 ht9 hk9 hr1 hr2 hr3))
        have hqw := H4.out.2.2.2.1
        have hqv := H3.out.2.2.2
        refine ⟨H5.out.2.2.2.2.trans ⟨ht9.mono fun b _ hb hn => ?_, ⟨hk9.size, fun k o _ => hk9.same k o (Nat.zero_le _)⟩⟩, rfl, (Turned.of_below H5.out.1).trans ht9 fun b _ hb => .inr hb, KK, ((A4, n4, c4), X4), ((A5, n5, c5), X), ?_, HB.out.2.2.2.1, ?_, HB.out.2.2.1.symm, hr1, hr2, hr3⟩
        · rcases hn with hn | hn
          · have h1 := (HB.out.2.2.2.2.2.2.2.2.2.1 _ hn).1
            have h2 := H4.out.1
            omega
          · omega
        · rw [List.length_append, List.length_singleton, ← HB.out.1]
        · rw [HB.out.1]
          simp
end Go.Proofs.YtebhlfmianohlaaDoor
