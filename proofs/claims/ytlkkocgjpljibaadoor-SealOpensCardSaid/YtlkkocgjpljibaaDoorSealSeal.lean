/-
  seal.Seal.
-/
import Derived.Test.YtlkkocgjpljibaaDoorSealKeys
import Derived.Test.YtlkkocgjpljibaaDoorChaRef
import Derived.Test.YtlkkocgjpljibaaDoorRegion
import Derived.Test.YtlkkocgjpljibaaDoorGrowCel
namespace Go.Proofs.YtlkkocgjpljibaaDoor
open Go.RowKit

theorem own_byt_at {w : World} {B : Nat} {e : TypeId} {A : Option Addr} {n c : Nat} {l : List UInt8} (h : w.ownsRow B e 1 (.slice A n c) n (u8s l)) : Byt w (B ≤ ·) A n c l := by
  obtain ⟨A', c', hv, hY⟩ := own_byt h
  injection hv with h1 h2 h3
  subst h1 h3
  exact hY
theorem own_below {w w' : World} {base : Nat} {e : TypeId} {size : Nat} {v : Value} {n : Nat} {xs : List Value} (h : w.ownsRow base e size v n xs) (hb : Below w.heap.size w w') : w'.ownsRow base e size v n xs :=
  h.kept (row := none) ⟨hb.os, hb.tape, hb.output, hb.size, fun k hk _ => hb.block k hk⟩ (by cases v.ownBlock <;> simp)
theorem own_base {w : World} {base base' : Nat} {e : TypeId} {size : Nat} {v : Value} {n : Nat} {xs : List Value} (h : w.ownsRow base e size v n xs) (hb : base' ≤ base) : w.ownsRow base' e size v n xs := by
  refine ⟨h.1, ?_⟩
  rcases h.2 with hn | ⟨g, cap, cur, h1, h2, rest⟩
  · exact .inl hn
  · exact .inr ⟨g, cap, cur, h1, by omega, rest⟩
theorem below_of_gr {B : Nat} {a w w' : World} (h : Below B a w) (hg : w.grownBy w' (some B)) (hB : B ≤ w.heap.size) : Below B a w' := h.grown hg hB fun k e => by injection e; omega
/-- append of a slice that reads as bytes to a row of the call's own that has room. -/
theorem append_byt {W : World} {B g k cap : Nat} {xs : List Value} (hown : W.ownsRow B 5 1 (.slice (some ⟨g, 0, none⟩) k cap) k xs) {S : Nat → Prop} {A : Option Addr} {n c : Nat} {l : List UInt8} (h : Byt W S A n c l) (hr : k + n ≤ cap) (ty : TypeId) :
    ∃ W', (Builtin.append_ #[25, 25] ty #[.slice (some ⟨g, 0, none⟩) k cap, .slice A n c]).run Tryd.prog W = .ok (.slice (some ⟨g, 0, none⟩) (k + n) cap) W' ∧ W'.ownsRow B 5 1 (.slice (some ⟨g, 0, none⟩) (k + n) cap) (k + n) (xs ++ u8s l) ∧ W.grownBy W' (some g) := by
  obtain ⟨i0, hi, hz0, hz1, hz2⟩ := info_parts u8_info
  rcases A with _ | ad
  · obtain rfl : n = 0 := by
      rcases Nat.eq_zero_or_pos n with h0 | h0
      · exact h0
      · obtain ⟨_, _, hA, _⟩ := h.row h0
        cases hA
    obtain rfl : l = [] := List.eq_nil_of_length_eq_zero h.len
    exact ⟨W, run_append_zero W 25 ty 5 i0 Tryd.underlying25 hi _ k cap c (by omega), by simpa [u8s] using hown, World.grownBy.refl _ _⟩
  · exact run_append_fits W B 25 ty 5 i0 1 Tryd.underlying25 hi hz1 g k cap xs hown ad n c (u8s l) (by rw [u8s_length, h.len, Nat.mul_one]) (byt_news h) (u8s_one l) hr
theorem eff_app {P : Program} {ops : Array Oper} {Q : Exit → Act → World → Prop} {i : Nat} {o : Oper} {K : Act → World → Prop} {a : Act} {w : World} (ho : ops.toList[i]? = some o) (hgd : o.guard = none) (s x : Operand) (t : TypeId)
    (hop : o.op = .call { callee := .builtin .append, args := #[s, x], argTypes := #[t, t] }) {v u v' : Value} {w' : World} (hs : a.eval s = v) (hx : a.eval x = u)
    (hrun : (Builtin.append_ #[t, t] o.type #[v, u]).run P w = .ok v' w') (h : K (a.put o.dst v') w') : wpOp P ops Q i K a w :=
  eff_step ho fun K' hK' => by
    rw [if_pos (by unfold Region.wanted; rw [hgd])]
    unfold Oper.wp execOp
    simp only [hop, resolve, invoke, builtin, Sem.run_bind, Sem.run_pure, Result.andThen_ok, List.map_toArray, List.map_cons, List.map_nil, hs, hx, hrun]
    exact hK' _ _ h
theorem wpList_app {P : Program} {ops : Array Oper} {rest : List Oper} {o : Oper} {a : Act} {Q : Exit → Act → World → Prop} {w w' : World} (hgd : o.guard = none) (s x : Operand) (t : TypeId)
    (hop : o.op = .call { callee := .builtin .append, args := #[s, x], argTypes := #[t, t] }) {v u v' : Value} (hs : a.eval s = v) (hx : a.eval x = u)
    (hrun : (Builtin.append_ #[t, t] o.type #[v, u]).run P w = .ok v' w') (h : wpList P ops Q rest (a.put o.dst v') w') : wpList P ops Q (o :: rest) a w :=
  wpList_plain hgd fun _ hK => by
    unfold Oper.wp execOp
    simp only [hop, resolve, invoke, builtin, Sem.run_bind, Sem.run_pure, Result.andThen_ok, List.map_toArray, List.map_cons, List.map_nil, hs, hx, hrun]
    exact hK _ _ h
theorem exec_load_row {P : Program} {E : Operand → Value} {o : Oper} {W : World} {t e : TypeId} {n : Nat} (ty : TypeId) (x : Operand) (ho : o.op = .load ty x) (g : Nat) (hx : E x = .pointer (some ⟨g, 0, none⟩)) (cells : Array Value) (f : Nat × Nat) (hg : W.heap[g]? = some (.cells cells t f))
    (hu : P.underlying ty = some (.array n e)) (hi : (P.info? ty).map (·.size) = some cells.size) : (execOp E o).run P W = .ok (.value (.agg cells)) W := by
  unfold execOp
  simp only [ho, hx, Instr.loadAt, Instr.sureAddr, Sem.run_bind, Sem.run_pure, Result.andThen_ok, run_loadVar_row W g t ty cells f _ hg hu rfl hi]

set_option maxHeartbeats 4000000 in
set_option maxRecDepth 100000 in
theorem sseal_any {w : World} {S : Nat → Prop} {A : Option Addr} {n c : Nat} {p : List UInt8} (h : Byt w S A n c p) (ht : Tab w) (hq : QTab w) (k : List UInt8) (hk : k.length = 32) (kind : UInt8) (N : Nat) (hn : n ≤ 65536) :
    Calls Tryd.prog 9 #[.agg (row8 k), .int .u8 (kind.toNat : Int), .int .u64 (N : Int), .slice A n c] w fun e w' => ∃ g, e = .returned (.tuple #[.slice (some ⟨g, 0, none⟩) (n + 41) (n + 41), .int .i64 0]) ∧ w'.ownsRow w.heap.size 5 1 (.slice (some ⟨g, 0, none⟩) (n + 41) (n + 41)) (n + 41) (u8s (sealL k kind N p)) ∧ Below w.heap.size w w' := by
  have hz := zero_b12
  obtain ⟨i0, hi, hz0, hz1, hz2⟩ := info_parts u8_info
  have HI := Lib.hid (And.intro hi (And.intro hz0 (And.intro hz1 hz2)))
  have hkeys := skeys_any k kind
  obtain ⟨NS, hNS⟩ : ∃ NS, NS = row8 (nonL (le8 N 8)) := ⟨_, rfl⟩
  have hno := snonce_any N
  obtain ⟨KS, hKS⟩ : ∃ KS, KS = row8 k := ⟨_, rfl⟩
  rw [← hKS] at hkeys ⊢
  rw [← hNS] at hno
  obtain ⟨HS, hHS⟩ : ∃ HS, HS = row8 (drvL k hideB kind.toNat) := ⟨_, rfl⟩
  obtain ⟨VS, hVS⟩ : ∃ VS, VS = row8 (drvL k vouchB kind.toNat) := ⟨_, rfl⟩
  obtain ⟨MS, hMS⟩ : ∃ MS, MS = row8 (macL (drvL k vouchB kind.toNat) (headL k kind N p)) := ⟨_, rfl⟩
  have HKH : Hid (∀ W P, Tab W → KeyBox P k kind W → Calls Tryd.prog 27 #[.string { data := #[104, 105, 100, 101] }, .pointer (some ⟨P, 0, none⟩), .pointer (some ⟨P + 1, 0, none⟩)] W fun e w' => e = .returned (.agg HS) ∧ Below W.heap.size W w') := Lib.hid fun W P hT hB => by
    rw [hHS]
    exact skey_any hT hB hk hideB (by decide)
  have HKV : Hid (∀ W P, Tab W → KeyBox P k kind W → Calls Tryd.prog 27 #[.string { data := #[118, 111, 117, 99, 104] }, .pointer (some ⟨P, 0, none⟩), .pointer (some ⟨P + 1, 0, none⟩)] W fun e w' => e = .returned (.agg VS) ∧ Below W.heap.size W w') := Lib.hid fun W P hT hB => by
    rw [hVS]
    exact skey_any hT hB hk vouchB (by decide)
  have HOV : Hid (∀ W {S : Nat → Prop} {A : Option Addr} {n c : Nat} {b : List UInt8}, Byt W S A n c b → QTab W → n ≤ 100000 → Calls Tryd.prog 17 #[.agg HS, .agg NS, .slice A n c] W fun e w' => ∃ A' c', e = .returned (.slice A' n c') ∧ Byt w' (W.heap.size ≤ ·) A' n c' (overL (drvL k hideB kind.toNat) (nonL (le8 N 8)) b) ∧ Below W.heap.size W w') := Lib.hid fun W S A n c b h1 h2 h3 => by
    rw [hHS, hNS]
    exact sover_any h1 _ _ (drvL_length _ _ _) (nonL_length (le8_length _ _)) h2 (by omega)
  have HMO : Hid (∀ W {S : Nat → Prop} {A : Option Addr} {n c : Nat}, Rws W S A n c [headL k kind N p] → Tab W → n ≤ 1000 → Calls Tryd.prog 18 #[.agg VS, .slice A n c] W fun e w' => e = .returned (.agg MS) ∧ Below W.heap.size W w') := Lib.hid fun W S A n c h1 h2 h3 => by
    rw [hVS, hMS]
    have := mof_any h1 h2 (by omega) (by rw [List.flatten_cons, List.flatten_nil, List.append_nil, headL_length, h.len]; omega) (drvL k vouchB kind.toNat) (drvL_length _ _ _)
    simpa using this
  have HMS : Hid (MS = row8 (macL (drvL k vouchB kind.toNat) (headL k kind N p)) ∧ MS.size = 32 ∧ MS.all (·.oneCell') = true) := Lib.hid ⟨hMS, by rw [hMS, row8_size, macL_length], by rw [hMS]; exact row8_one _⟩
  clear hHS hVS hMS
  have HKEYS := Lib.hid hkeys
  have HNO := Lib.hid hno
  have HH := Lib.hid (And.intro h (And.intro ht hq))
  have HKS : Hid (KS.size = 32 ∧ NS.size = 12 ∧ NS.all (·.oneCell') = true) := Lib.hid ⟨by rw [hKS, row8_size, hk], by rw [hNS, row8_size, nonL_length (le8_length _ _)], by rw [hNS]; exact row8_one _⟩
  have HNS := Lib.hid hNS
  have HKK := Lib.hid hk
  have HK0 : Hid ((w.alloc (.cells KS 23)).heap[w.heap.size]? = some (.cells KS 23 (0, 0)) ∧ Below w.heap.size w (w.alloc (.cells KS 23))) := Lib.hid ⟨heap_alloc_new w _, (Below.refl _ _).alloc (Nat.le_refl _) _⟩
  clear hi hz0 hz1 hz2 hkeys hKS hNS hno h ht hq hk
  go_enter Tryd.func9, Tryd.ntmps9
  go_wp2_with (refine wpList_load_row (by rfl) 23 (.tmp 4) (by rfl) w.heap.size (by rfl) 23 KS (0, 0) _ HK0.out.1 Tryd.underlying23 (by rfl) (by rw [HKS.out.1]; exact key_info) ?_)
  refine (HKEYS.out _).mono ?_
  rintro _ w2 ⟨rfl, hbox, hb2⟩
  have hB2 := HK0.out.2.trans (hb2.mono HK0.out.2.size)
  generalize hp : (w.alloc (.cells KS 23)).heap.size = P at *
  have hP : w.heap.size ≤ P := by rw [← hp]; simp
  have HX2 : Hid (KeyBox P k kind w2 ∧ Below w.heap.size w w2) := Lib.hid ⟨hbox, hB2⟩
  clear hbox hb2 hB2 hp HK0
  unfold keyFn
  go_wp2_with fail
  refine (HNO.out _).mono ?_
  rintro _ w3 ⟨rfl, hb3⟩
  have HX3 : Hid (KeyBox P k kind w3 ∧ Below w.heap.size w w3) := Lib.hid ⟨HX2.out.1.below hb3, HX2.out.2.trans (hb3.mono HX2.out.2.size)⟩
  clear hb3 HX2 HKEYS HNO
  have HG3 := Lib.hid (heap_alloc_new w3 (.cells zeros12 47))
  go_upto_region 4 with (refine wpList_store_row (by rfl) 47 (.tmp 11) (.tmp 21) (by rfl) w3.heap.size NS (by rfl) (by rfl) 47 _ HG3.out (by rw [HKS.out.2.1]; exact info12s) (by rw [HKS.out.2.1]; rfl) HKS.out.2.2 ?_)
  have hsr : Below w.heap.size w ((w3.alloc (.cells zeros12 47)).setRow w3.heap.size NS) := below_setRow (HX3.out.2.alloc HX3.out.2.size _) HX3.out.2.size _
  have hsk : Below w3.heap.size w3 ((w3.alloc (.cells zeros12 47)).setRow w3.heap.size NS) := below_setRow ((Below.refl _ _).alloc (Nat.le_refl _) _) (Nat.le_refl _) _
  have hns := setRow_at (new := NS) HG3.out
  have hbx := HX3.out.1.below hsk
  have hq : w.heap.size ≤ w3.heap.size := HX3.out.2.size
  generalize (w3.alloc (.cells zeros12 47)).setRow w3.heap.size NS = w4 at *
  generalize w3.heap.size = q at *
  have HX4 : Hid (KeyBox P k kind w4 ∧ Below w.heap.size w w4 ∧ w4.heap[q]? = some (.cells NS 47 (0, 0))) := Lib.hid ⟨hbx, hsr, hns⟩
  clear hsr hsk hns hbx hz HG3 HX3
  go_wp2_with (at_make; refine wpList_make_own w4 (by rfl) _ _ 25 (by rfl) w4.heap.size 5 i0 (.int .u8 0) 1 Tryd.underlying25 HI.out.1 HI.out.2.1 HI.out.2.2.1 .i64 .i64 ((n : Int) + 41) (n + 41) (by rfl) (by rfl) (by simp) (by rw [HI.out.2.2.2]; omega) (by unfold maxLen; omega) (Nat.le_refl _) ?_)
  intro w5 hown5 hgr5
  obtain ⟨B, hBe⟩ : ∃ B, B = w4.heap.size := ⟨_, rfl⟩
  rw [← hBe] at hown5 ⊢
  have hb5 : Below B w4 w5 := (Below.refl _ _).grown hgr5 (by omega) (fun k e => by cases e)
  have hB5 : B ≤ w5.heap.size := by have := hb5.size; omega
  have hc6 := cell_one_new w5 (.int .u8 (kind.toNat : Int)) 5
  have HO5 := Lib.hid (And.intro (hown5.alloc (.cells #[.int .u8 (kind.toNat : Int)] 5)) hc6)
  have HBE := Lib.hid hBe
  clear hgr5 hown5 hc6 hBe
  go_wp2_with (at_builtin; refine wpList_append_fits (w5.alloc (.cells #[.int .u8 (kind.toNat : Int)] 5)) (by rfl) (.tmp 26) (.tmp 28) 25 (by rfl) B 5 i0 1 Tryd.underlying25 HI.out.1 HI.out.2.2.1 B 0 (n + 41) [] (by rfl) HO5.out.1 ⟨w5.heap.size, 0, none⟩ 1 1 [.int .u8 (kind.toNat : Int)] (by rfl) (by rfl) HO5.out.2 (by simp [Value.oneCell']) (by omega) ?_)
  intro w6 hown6 hgr6
  have hb6 : Below B w4 w6 := below_of_gr (hb5.alloc hB5 _) hgr6 (Nat.le_trans hB5 (by simp))
  have hB6 : B ≤ w6.heap.size := by have := hb6.size; have := HBE.out; omega
  have HO6 : Hid (w6.ownsRow B 5 1 (.slice (some ⟨B, 0, none⟩) 1 (n + 41)) 1 [.int .u8 (kind.toNat : Int)]) := Lib.hid hown6
  have hqB : q < B := by rw [HBE.out]; exact lt_of_cells HX4.out.2.2
  have hn6 : w6.heap[q]? = some (.cells NS 47 (0, 0)) := (hb6.block _ hqB).trans HX4.out.2.2
  have HC7 : Hid (∀ j u, (u8s (le8 N 8))[j]? = some u → w6.cell? ((⟨q, 0, none⟩ : Addr).add j) = some u) := Lib.hid fun j u hj => by
    have hjl : j < (u8s (le8 N 8)).length := (List.getElem?_eq_some_iff.1 hj).1
    rw [add_plain, Nat.zero_add, cell_of_cells hn6, HNS.out, row8, nonL, u8s_append, List.getElem?_toArray, List.getElem?_append_left hjl, hj]
  clear hgr6 hown6 hb5 hB5 HO5 hn6
  go_wp2_with (at_builtin; refine wpList_append_fits w6 (by rfl) (.tmp 30) (.tmp 31) 25 (by rfl) B 5 i0 1 Tryd.underlying25 HI.out.1 HI.out.2.2.1 B 1 (n + 41) [.int .u8 (kind.toNat : Int)] (by rfl) HO6.out ⟨q, 0, none⟩ 8 12 (u8s (le8 N 8)) (by rfl) (by rw [u8s_length, le8_length]) HC7.out (u8s_one _) (by omega) ?_)
  intro w7 hown7 hgr7
  have hb7 : Below B w4 w7 := below_of_gr hb6 hgr7 hB6
  have hB7 : B ≤ w7.drew.heap.size := by have := hb7.size; have := HBE.out; show B ≤ w7.heap.size; omega
  have hown7' : w7.drew.ownsRow B 5 1 (.slice (some ⟨B, 0, none⟩) 9 (n + 41)) 9 (u8s ([kind] ++ le8 N 8)) := by
    rw [u8s_append]
    exact hown7
  have HO7 := Lib.hid hown7'
  have HB7 : Hid (Below w4.heap.size w4 w7.drew) := Lib.hid (by rw [← HBE.out]; exact hb7.drew)
  have hn7 : w7.drew.heap[q]? = some (.cells NS 47 (0, 0)) := (HB7.out.block _ (lt_of_cells HX4.out.2.2)).trans HX4.out.2.2
  clear hgr7 hown7 hown7' hb6 hB6 HO6 HC7 hb7
  go_upto_region 7 with fail
  refine wp_region_plan (fun W => W.heap[q]? = some (.cells NS 47 (0, 0))) [([0, 1, 3, 4], 2), ([], 5), ([], 6)] [7] (by kernel_rfl) (by kernel_rfl) (fun _ _ d _ _ h => by cases d <;> exact h) hn7 ?_
  generalize w7.drew = wd at *
  refine plan_eff ?_
  refine seg_read ?v1 (by rfl) (by rfl) ?h1 ?_
  case h1 => intro W hW; go_simp; with_reducible rfl
  try simp only [Act.put, List.setIfInBounds_toArray, List.set_cons_zero, List.set_cons_succ]
  refine seg_read ?v2 (by rfl) (by rfl) ?h2 ?_
  case h2 => intro W hW; go_simp; with_reducible rfl
  try simp only [Act.put, List.setIfInBounds_toArray, List.set_cons_zero, List.set_cons_succ]
  refine seg_read (.agg NS) (by rfl) (by rfl) (fun W hW => exec_load_row 47 (.tmp 11) rfl q (by rfl) NS (0, 0) hW Tryd.underlying47 (by rw [HKS.out.2.1]; exact info12s)) ?_
  try simp only [Act.put, List.setIfInBounds_toArray, List.set_cons_zero, List.set_cons_succ]
  refine seg_read ?v4 (by rfl) (by rfl) ?h4 ?_
  case h4 => intro W hW; go_simp; with_reducible rfl
  try simp only [Act.put, List.setIfInBounds_toArray, List.set_cons_zero, List.set_cons_succ]
  refine seg_nil ?_
  refine eff_step (by rfl) (fun K hK => ?_)
  go_simp
  have hT7 : Tab wd := (HH.out.2.1.below HX4.out.2.1).below HB7.out
  refine (HKH.out wd P hT7 (HX4.out.1.below HB7.out)).mono ?_
  rintro _ w8 ⟨rfl, hb8⟩
  have HB8 : Hid (Below w4.heap.size w4 w8) := Lib.hid (HB7.out.trans (hb8.mono HB7.out.size))
  have HO8 := Lib.hid (own_below HO7.out hb8)
  have hn8 : w8.heap[q]? = some (.cells NS 47 (0, 0)) := (HB8.out.block _ (lt_of_cells HX4.out.2.2)).trans HX4.out.2.2
  clear hb8 hT7 hn7 hB7 HO7 HB7
  refine hK _ _ ⟨fun W => W.heap[q]? = some (.cells NS 47 (0, 0)), hn8, fun _ h => h, ?_⟩
  clear hK K
  try simp only [Act.put, List.setIfInBounds_toArray, List.set_cons_zero, List.set_cons_succ]
  refine plan_eff ?_
  refine seg_nil ?_
  refine eff_step (by rfl) (fun K hK => ?_)
  go_simp
  refine (HOV.out w8 ((HH.out.1.below HX4.out.2.1).below HB8.out) ((HH.out.2.2.below HX4.out.2.1).below HB8.out) (by omega)).mono ?_
  rintro _ w9 ⟨A9, c9, rfl, hY9, hb9⟩
  have HB9 : Hid (Below w4.heap.size w4 w9) := Lib.hid (HB8.out.trans (hb9.mono HB8.out.size))
  have HO9 := Lib.hid (own_below HO8.out hb9)
  have hn9 : w9.heap[q]? = some (.cells NS 47 (0, 0)) := (HB9.out.block _ (lt_of_cells HX4.out.2.2)).trans HX4.out.2.2
  have HY9 := Lib.hid hY9
  clear hb9 hY9 hn8 HO8 HB8
  refine hK _ _ ⟨fun W => W.heap[q]? = some (.cells NS 47 (0, 0)), hn9, fun _ h => h, ?_⟩
  clear hK K
  try simp only [Act.put, List.setIfInBounds_toArray, List.set_cons_zero, List.set_cons_succ]
  refine plan_eff ?_
  refine seg_nil ?_
  obtain ⟨w10, hrun, hown10, hgr10⟩ := append_byt HO9.out HY9.out (by omega) 25
  refine eff_app (by rfl) (by rfl) (.tmp 33) (.tmp 38) 25 (by rfl) (by rfl) (by rfl) hrun ?_
  have hB9 : B ≤ w9.heap.size := by have := HB9.out.size; have := HBE.out; omega
  have HB10 : Hid (Below w4.heap.size w4 w10) := Lib.hid (by
    have h1 := HB9.out
    rw [← HBE.out] at h1 ⊢
    exact below_of_gr h1 hgr10 hB9)
  have hn10 : w10.heap[q]? = some (.cells NS 47 (0, 0)) := (HB10.out.block _ (lt_of_cells HX4.out.2.2)).trans HX4.out.2.2
  rw [← u8s_append] at hown10
  have HO10 : Hid (w10.ownsRow B 5 1 (.slice (some ⟨B, 0, none⟩) (9 + n) (n + 41)) (9 + n) (u8s (headL k kind N p))) := Lib.hid hown10
  clear hrun hown10 hgr10 hB9 HB9 HO9 HY9
  refine ⟨fun W => W = w10, rfl, fun W e => by rw [e]; exact hn10, ?_⟩
  try simp only [Act.put, List.setIfInBounds_toArray, List.set_cons_zero, List.set_cons_succ]
  refine plan_last ?_
  repeat (refine seg_step (by rfl) (fun K hK => ?_); go_simp; refine hK _ ?_; clear hK K)
  refine seg_nil ?_
  clear hn10 hn9
  have hT10 : Tab w10 := (HH.out.2.1.below HX4.out.2.1).below HB10.out
  have HK10 : Hid (KeyBox P k kind w10) := Lib.hid (HX4.out.1.below HB10.out)
  have HT10 := Lib.hid hT10
  clear hT10
  go_wp2_with fail
  refine (HKV.out w10 P HT10.out HK10.out).mono ?_
  rintro _ w11 ⟨rfl, hb11⟩
  have HB11 : Hid (Below w4.heap.size w4 w11) := Lib.hid (HB10.out.trans (hb11.mono HB10.out.size))
  have HO11 := Lib.hid (own_below HO10.out hb11)
  have HT11 := Lib.hid (HT10.out.below hb11)
  clear hb11 HO10 HT10 HK10 HB10
  have HA11 : Hid (Below w11.heap.size w11 (w11.alloc (.cells #[.slice (some ⟨B, 0, none⟩) (9 + n) (n + 41)] 25))) := Lib.hid ((Below.refl _ _).alloc (Nat.le_refl _) _)
  go_wp2_with fail
  refine (HMO.out _ (rws_one (own_byt_at HO11.out)) (HT11.out.below HA11.out) (by omega)).mono ?_
  rintro _ w12 ⟨rfl, hb12⟩
  have hb12 : Below w11.heap.size w11 w12 := HA11.out.trans (hb12.mono HA11.out.size)
  have HB12 : Hid (Below w4.heap.size w4 w12) := Lib.hid (HB11.out.trans (hb12.mono HB11.out.size))
  have HO12 := Lib.hid (own_below HO11.out hb12)
  clear hb12 HO11 HT11 HB11 HA11
  have hzi := zero_id
  have HG12 := Lib.hid (heap_alloc_new w12 (.cells zerosId 34))
  go_upto_region 9 with (refine wpList_store_row (by rfl) 34 (.tmp 13) (.tmp 44) (by rfl) w12.heap.size MS (by rfl) (by rfl) 34 _ HG12.out (by rw [HMS.out.2.1]; exact id_info) (by rw [HMS.out.2.1]; rfl) HMS.out.2.2 ?_)
  have hsk : Below w12.heap.size w12 ((w12.alloc (.cells zerosId 34)).setRow w12.heap.size MS) := below_setRow ((Below.refl _ _).alloc (Nat.le_refl _) _) (Nat.le_refl _) _
  have HB13 : Hid (Below w4.heap.size w4 ((w12.alloc (.cells zerosId 34)).setRow w12.heap.size MS)) := Lib.hid (HB12.out.trans (hsk.mono HB12.out.size))
  have HO13 := Lib.hid (own_below HO12.out hsk)
  have hms := setRow_at (new := MS) HG12.out
  rw [HMS.out.1] at hms
  have HY13 := Lib.hid (byt_whole hms (by rw [macL_length]; omega))
  rw [macL_length, ← HMS.out.1] at HY13
  clear hsk hms HG12 HO12 HB12 hzi
  generalize (w12.alloc (.cells zerosId 34)).setRow w12.heap.size MS = w13 at *
  generalize w12.heap.size = mb at *
  obtain ⟨w14, hrun, hown14, hgr14⟩ := append_byt HO13.out HY13.out (by omega) 25
  have hB13 : B ≤ w13.heap.size := by have := HB13.out.size; have := HBE.out; omega
  have HF : Hid (Below w.heap.size w w14) := Lib.hid (by
    have h1 := HB13.out
    rw [← HBE.out] at h1
    exact HX4.out.2.1.trans ((below_of_gr h1 hgr14 hB13).mono (by have := HX4.out.2.1.size; have := HBE.out; omega)))
  rw [← u8s_append, show 9 + n + 32 = n + 41 by omega] at hown14
  rw [show 9 + n + 32 = n + 41 by omega] at hrun
  have HO14 : Hid (w14.ownsRow w.heap.size 5 1 (.slice (some ⟨B, 0, none⟩) (n + 41) (n + 41)) (n + 41) (u8s (sealL k kind N p))) := Lib.hid (own_base hown14 (by have := HX4.out.2.1.size; have := HBE.out; omega))
  have HRUN := Lib.hid hrun
  clear hrun hown14 hgr14 hB13 HO13 HY13 HB13
  go_wp2_with (at_builtin; refine wpList_app (by rfl) (.tmp 45) (.tmp 46) 25 (by rfl) (by rfl) (by rfl) HRUN.out ?_)
  exact bodyPost_ret (results_tmp2 rfl _ _ _) rfl ⟨B, rfl, HO14.out, HF.out⟩
end Go.Proofs.YtlkkocgjpljibaaDoor
