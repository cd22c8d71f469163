/-
  seal.cut: what stands in a blob.
-/
import Derived.Test.YtlkkocgjpljibaaDoorSealParts
import Derived.Test.YtlkkocgjpljibaaDoorSto
import Derived.Laws.Cover3
namespace Go.Proofs.YtlkkocgjpljibaaDoor
open Go.RowKit

/-- s[l:h:m] -/
theorem run_lhm {P : Program} (t e : TypeId) (ht : P.underlying t = some (.slice e)) (hz : ∀ w, (Go.sizeOf e).run P w = .ok 1 w) (A : Option Addr) (n c l h m : Nat) (li hi mi : Int) (el : li = (l : Int)) (eh : hi = (h : Int)) (em : mi = (m : Int)) (h1 : l ≤ h) (h2 : h ≤ m) (h3 : m ≤ c) (W : World) :
    (Instr.slice t (.slice A n c) (some (.int .i64 li)) (some (.int .i64 hi)) (some (.int .i64 mi))).run P W = .ok (.slice (cutA A m l) (h - l) (m - l)) W := by
  have ht' : P.underlying t = some (.slice (P.elem t)) := by simp [Program.elem, ht]
  have he : P.elem t = e := by simp [Program.elem, ht]
  subst el eh em
  rw [run_slice_lhm W t A n c ht' .i64 .i64 .i64 (l : Int) (h : Int) (m : Int) (by omega) (by omega) (by omega) (by omega), he, hz]
  simp [Result.andThen, sliced, cutA]
/-- An array or a struct that is read anywhere. -/
theorem run_loadVar_at {P : Program} (w : World) (ad : Addr) (ty : TypeId) (cs : Array Value) (d : TypeDesc) (hc : ∀ j v, cs[j]? = some v → w.cell? (ad.add j) = some v)
    (hu : P.underlying ty = some d) (hd : (match d with | .struct _ | .array _ _ => true | _ => false) = true) (hi : (P.info? ty).map (·.size) = some cs.size) :
    (loadVar ty ad).run P w = .ok (.agg cs) w := by
  have hl : (loadCells ad cs.toList.length).run P w = .ok cs.toList.toArray w :=
    run_loadCells_list (P := P) w ad cs.toList (fun j v hv => hc j v (by simpa using hv))
  cases hq : P.info? ty with
  | none => simp [hq] at hi
  | some i =>
    have hs : i.size = cs.size := by simpa [hq] using hi
    have hagg : (isAgg ty).run P w = .ok true w := by
      unfold isAgg
      rw [Sem.run_bind, run_underlying hu w]
      cases d <;> simp_all
    simp only [Array.length_toList, Array.toArray_toList] at hl
    simp [loadVar, Sem.run_bind, hagg, sizeOf, typeInfo, hq, hs, hl]
theorem runs_load_at {P : Program} {R : Value → World → Prop} {E : Operand → Value} {o : Oper} {W : World} {e : TypeId} {n : Nat} (ty : TypeId) (x : Operand) (ho : o.op = .load ty x) (ad : Addr) (hx : E x = .pointer (some ad)) (cells : Array Value) (hc : ∀ j v, cells[j]? = some v → W.cell? (ad.add j) = some v)
    (hu : P.underlying ty = some (.array n e)) (hi : (P.info? ty).map (·.size) = some cells.size) (h : R (.agg cells) W) : Grow.runsTo P R ((execOp E o).run P W) := by
  unfold execOp
  simp only [ho, hx, Instr.loadAt, Instr.sureAddr, Sem.run_bind, Sem.run_pure, Result.andThen_ok, run_loadVar_at W ad ty cells _ hc hu rfl hi]
  exact h

/-- What T{..} comes to, its value by a closed fact. -/
theorem runs_build {P : Program} {R : Value → World → Prop} {E : Operand → Value} {o : Oper} {W : World} (t : TypeId) (parts : Array (Nat × Operand)) (ho : o.op = .build t parts) (vs : List (Nat × Value)) (hv : (parts.map fun (i, x) => (i, E x)).toList = vs)
    (cells : Array Value) (hb : P.built t vs = some cells) (h : R (.agg cells) W) : Grow.runsTo P R ((execOp E o).run P W) := by
  have hr : (Instr.build t (parts.map fun (i, x) => (i, E x))).run P W = .ok (.agg cells) W := run_build W t _ cells (by rw [hv]; exact hb)
  unfold execOp
  simp only [ho, Sem.run_bind, hr, Result.andThen_ok, Sem.run_pure]
  exact h

/-- The cells of what cut answers. -/
def partsV (k : UInt8) (N : Nat) (hid ahead : Value) (said : Array Value) : Array Value := #[.int .u8 (k.toNat : Int), .int .u64 (N : Int), hid, ahead] ++ said
theorem list32 {l : List UInt8} (h : l.length = 32) : ∃ a0 a1 a2 a3 a4 a5 a6 a7 a8 a9 b0 b1 b2 b3 b4 b5 b6 b7 b8 b9 c0 c1 c2 c3 c4 c5 c6 c7 c8 c9 d0 d1, l = [a0, a1, a2, a3, a4, a5, a6, a7, a8, a9, b0, b1, b2, b3, b4, b5, b6, b7, b8, b9, c0, c1, c2, c3, c4, c5, c6, c7, c8, c9, d0, d1] := by
  match l, h with
  | [a0, a1, a2, a3, a4, a5, a6, a7, a8, a9, b0, b1, b2, b3, b4, b5, b6, b7, b8, b9, c0, c1, c2, c3, c4, c5, c6, c7, c8, c9, d0, d1], _ => exact ⟨_, _, _, _, _, _, _, _, _, _, _, _, _, _, _, _, _, _, _, _, _, _, _, _, _, _, _, _, _, _, _, _, rfl⟩
set_option maxRecDepth 100000 in
theorem build_parts (k : UInt8) (N : Nat) (A B : Option Addr) (n1 c1 n2 c2 : Nat) (l : List UInt8) (hl : l.length = 32) :
    Tryd.prog.built 56 [(0, .int .u8 (k.toNat : Int)), (1, .int .u64 (N : Int)), (2, .slice A n1 c1), (3, .slice B n2 c2), (4, .agg (row8 l))] = some (partsV k N (.slice A n1 c1) (.slice B n2 c2) (row8 l)) := by
  obtain ⟨a0, a1, a2, a3, a4, a5, a6, a7, a8, a9, b0, b1, b2, b3, b4, b5, b6, b7, b8, b9, c0, c1, c2, c3, c4, c5, c6, c7, c8, c9, d0, d1, rfl⟩ := list32 hl
  unfold partsV row8 u8s
  kernel_rfl
theorem parts_info : (Tryd.prog.info? 56).map (·.size) = some 36 := by kernel_rfl
def zerosP : Array Value := #[.int .u8 0, .int .u64 0, .slice none 0 0, .slice none 0 0] ++ row8 (List.replicate 32 0)
theorem zero_parts : ∀ W, (zeroValue 56).run Tryd.prog W = .ok (.agg zerosP) W := fun W => by unfold zerosP row8; kernel_rfl
theorem partsV_size (k : UInt8) (N : Nat) (x y : Value) (l : List UInt8) (hl : l.length = 32) : (partsV k N x y (row8 l)).size = 36 := by simp [partsV, row8_size, hl]
theorem partsV_one (k : UInt8) (N : Nat) (A B : Option Addr) (n1 c1 n2 c2 : Nat) (l : List UInt8) : (partsV k N (.slice A n1 c1) (.slice B n2 c2) (row8 l)).all (·.oneCell') = true := by
  have := row8_one l
  rw [partsV, Array.all_append, this, Bool.and_true]
  simp [Value.oneCell']

/-! The walk. -/
set_option maxHeartbeats 4000000 in
set_option maxRecDepth 100000 in
theorem scut_any {w : World} {S : Nat → Prop} {A : Option Addr} {n c : Nat} {b : List UInt8} (h : Byt w S A n c b) (hn : 41 ≤ n) :
    Calls Tryd.prog 24 #[.slice A n c] w fun e w' => e = .returned (.agg (partsV (kindL b) (num8 (eightL b)) (.slice (cutA A (n - 32) 9) (n - 41) (n - 41)) (.slice A (n - 32) (n - 32)) (row8 (b.drop (n - 32))))) ∧ Below w.heap.size w w' := by
  have hz := zero_parts
  obtain ⟨m, rfl⟩ : ∃ m, n = m + 32 := ⟨n - 32, by omega⟩
  rw [Nat.add_sub_cancel, show m + 32 - 41 = m - 9 by omega]
  have hl := h.len
  obtain ⟨B, off, rfl, _, hlt, hc⟩ := h.row (by omega)
  obtain ⟨DS, hDS⟩ : ∃ DS, DS = row8 (b.drop m) := ⟨_, rfl⟩
  have hdl : (b.drop m).length = 32 := by rw [List.length_drop, hl]; omega
  have HDS : Hid (DS = row8 (b.drop m) ∧ DS.size = 32) := Lib.hid ⟨hDS, by rw [hDS, row8_size, hdl]⟩
  obtain ⟨PV, hPV⟩ : ∃ PV, PV = partsV (kindL b) (num8 (eightL b)) (.slice (cutA (some ⟨B, off, none⟩) m 9) (m - 9) (m - 9)) (.slice (some ⟨B, off, none⟩) m m) (row8 (b.drop m)) := ⟨_, rfl⟩
  have HPV : Hid ((Tryd.prog.built 56 [(0, .int .u8 ((kindL b).toNat : Int)), (1, .int .u64 (num8 (eightL b) : Int)), (2, .slice (cutA (some ⟨B, off, none⟩) m 9) (m - 9) (m - 9)), (3, .slice (some ⟨B, off, none⟩) m m), (4, .agg DS)]) = some PV ∧ PV.size = 36 ∧ PV.all (·.oneCell') = true) := Lib.hid (by
    rw [hPV, hDS]
    exact ⟨build_parts _ _ _ _ _ _ _ _ _ hdl, partsV_size _ _ _ _ _ hdl, partsV_one _ _ _ _ _ _ _ _ _⟩)
  rw [← hPV]
  have HC : Hid (m + 32 ≤ c) := Lib.hid h.cap
  have hb0 : Below w.heap.size w (w.alloc (.cells zerosP 56)) := (Below.refl _ _).alloc (Nat.le_refl _) _
  have hkeep : ∀ W, Sto w.heap.size (.cells PV 56 (0, 0)) (w.alloc (.cells zerosP 56)).drew W → Turned (w.heap.size ≤ ·) w W := fun W hW =>
    (Turned.of_below hb0).trans (hW.of_drew.turned) (fun i hi e => by omega)
  have HB : Hid (∀ W, Sto w.heap.size (.cells PV 56 (0, 0)) (w.alloc (.cells zerosP 56)).drew W → Below w.heap.size w W) := Lib.hid fun W hW => (hkeep W hW).below (Nat.le_refl _)
  have HCE : Hid (∀ W, Sto w.heap.size (.cells PV 56 (0, 0)) (w.alloc (.cells zerosP 56)).drew W → ∀ i, i < m + 32 → W.cell? ⟨B, off + i, none⟩ = some (.int .u8 ((b[i]?.getD 0).toNat : Int))) := Lib.hid fun W hW i hi =>
    ((HB.out W hW).cell (p := ⟨B, off + i, none⟩) hlt).trans (hc i hi)
  have HY8 : Hid (∀ W, Sto w.heap.size (.cells PV 56 (0, 0)) (w.alloc (.cells zerosP 56)).drew W → Byt W S (cutA (some ⟨B, off, none⟩) 9 1) (9 - 1) (9 - 1) (eightL b)) := Lib.hid fun W hW => by
    have hy := ((h.below (HB.out W hW)).take (k := 9) (by omega)).cut (k := 1) (by omega)
    rwa [show (b.take 9).drop 1 = eightL b by rw [eightL, List.drop_take]] at hy
  have HDC : Hid (∀ W, Sto w.heap.size (.cells PV 56 (0, 0)) (w.alloc (.cells zerosP 56)).drew W → ∀ j v, DS[j]? = some v → W.cell? ((⟨B, off + m, none⟩ : Addr).add j) = some v) := Lib.hid fun W hW j v hj => by
    have hjl : j < 32 := by
      have := (Array.getElem?_eq_some_iff.1 hj).1
      rwa [HDS.out.2] at this
    rw [add_plain, Nat.add_assoc, HCE.out W hW (m + j) (by omega), ← hj, HDS.out.1, row8, List.getElem?_toArray]
    have hmj : m + j < b.length := by omega
    simp [u8s, hmj]
  have HQ : Hid (w.heap.size < (w.alloc (.cells zerosP 56)).drew.heap.size ∧ True ∧ (w.alloc (.cells zerosP 56)).drew.heap[w.heap.size]? = some (.cells zerosP 56 (0, 0))) := Lib.hid ⟨lt_of_cells (heap_alloc_new w _), trivial, heap_alloc_new w _⟩
  have HRT : Hid (PV = PV) := Lib.hid rfl
  have hm0 : m ≤ 9223372036854775775 := by
    have h1 := h.cap
    have h2 := h.max
    unfold maxLen at h2
    omega
  clear hkeep hb0 hPV hDS hdl hl hc
  go_enter Tryd.func24, Tryd.ntmps24
  go_wp2_with fail
  refine wp_region_grow (Sto w.heap.size (.cells PV 56 (0, 0))) (Grow.nth [fun v _ => v = .slice (some ⟨B, off, none⟩) (m + 32) c, fun v _ => v = .pointer (some ⟨B, off, none⟩), fun v _ => v = .int .u8 ((kindL b).toNat : Int), fun v _ => v = .slice (some ⟨B, off, none⟩) (m + 32) c, fun v _ => v = .slice (cutA (some ⟨B, off, none⟩) 9 1) (9 - 1) (9 - 1), fun v _ => v = .int .u64 (num8 (eightL b) : Int), fun v _ => v = .slice (some ⟨B, off, none⟩) (m + 32) c, fun v _ => v = .int .i64 (m : Int), fun v _ => v = .int .i64 (m : Int), fun v _ => v = .slice (cutA (some ⟨B, off, none⟩) m 9) (m - 9) (m - 9), fun v _ => v = .slice (some ⟨B, off, none⟩) (m + 32) c, fun v _ => v = .int .i64 (m : Int), fun v _ => v = .int .i64 (m : Int), fun v _ => v = .slice (some ⟨B, off, none⟩) m m, fun v _ => v = .slice (some ⟨B, off, none⟩) (m + 32) c, fun v _ => v = .int .i64 (m : Int), fun v _ => v = .slice (some ⟨B, off, none⟩) (m + 32) c, fun v _ => v = .int .i64 ((m : Int) + 32), fun v _ => v = .slice (some ⟨B, off, none⟩) (m + 32) c, fun v _ => v = .int .i64 ((m : Int) + 32), fun v _ => v = .slice (some ⟨B, off + m, none⟩) 32 32, fun v _ => v = .pointer (some ⟨B, off + m, none⟩), fun v _ => v = .agg DS, fun v _ => v = .agg PV, fun _ W => W.heap[w.heap.size]? = some (.cells PV 56 (0, 0))]) 31 (by kernel_rfl) (by kernel_rfl) (by rfl) (Sto.refl _ _) (fun _ _ _ h1 h2 => h1.trans h2) (Grow.mono_nth ?gmono) ?gsteps ?gfin
  case gmono => exact ⟨fun _ _ _ h _ => h, fun _ _ _ h _ => h, fun _ _ _ h _ => h, fun _ _ _ h _ => h, fun _ _ _ h _ => h, fun _ _ _ h _ => h, fun _ _ _ h _ => h, fun _ _ _ h _ => h, fun _ _ _ h _ => h, fun _ _ _ h _ => h, fun _ _ _ h _ => h, fun _ _ _ h _ => h, fun _ _ _ h _ => h, fun _ _ _ h _ => h, fun _ _ _ h _ => h, fun _ _ _ h _ => h, fun _ _ _ h _ => h, fun _ _ _ h _ => h, fun _ _ _ h _ => h, fun _ _ _ h _ => h, fun _ _ _ h _ => h, fun _ _ _ h _ => h, fun _ _ _ h _ => h, fun _ _ _ h _ => h, fun _ _ _ h g => g.keeps h, trivial⟩
  case gsteps =>
    show Grow.allBelow _ 25
    refine And.intro ?_ ?s24
    refine And.intro ?_ ?s23
    refine And.intro ?_ ?s22
    refine And.intro ?_ ?s21
    refine And.intro ?_ ?s20
    refine And.intro ?_ ?s19
    refine And.intro ?_ ?s18
    refine And.intro ?_ ?s17
    refine And.intro ?_ ?s16
    refine And.intro ?_ ?s15
    refine And.intro ?_ ?s14
    refine And.intro ?_ ?s13
    refine And.intro ?_ ?s12
    refine And.intro ?_ ?s11
    refine And.intro ?_ ?s10
    refine And.intro ?_ ?s9
    refine And.intro ?_ ?s8
    refine And.intro ?_ ?s7
    refine And.intro ?_ ?s6
    refine And.intro ?_ ?s5
    refine And.intro ?_ ?s4
    refine And.intro ?_ ?s3
    refine And.intro ?_ ?s2
    refine And.intro ?_ ?s1
    refine And.intro ?_ ?s0
    exact trivial
    case s0 =>
      refine Grow.step_in (by rfl) (by rfl) ?_
      intro E W ec eg ef hG hd hu R HR
      have e0 : E (.tmp 0) = .slice (some ⟨B, off, none⟩) (m + 32) c := hu 0 (by kernel_rfl)
      clear hd hu
      go_simp
      exact HR.out _ _ (Sto.refl _ _ _) rfl
    case s1 =>
      refine Grow.step_in (by rfl) (by rfl) ?_
      intro E W ec eg ef hG hd hu R HR
      have e7 : E (.tmp 7) = .slice (some ⟨B, off, none⟩) (m + 32) c := hd 0 7 (by kernel_rfl)
      clear hd hu
      have h0m : (0 : Int) < (m : Int) + 32 := by omega
      go_simp
      exact HR.out _ _ (Sto.refl _ _ _) rfl
    case s2 =>
      refine Grow.step_in (by rfl) (by rfl) ?_
      intro E W ec eg ef hG hd hu R HR
      have e8 : E (.tmp 8) = .pointer (some ⟨B, off, none⟩) := hd 1 8 (by kernel_rfl)
      clear hd hu
      have hcell := HCE.out W hG 0 (by omega)
      rw [Nat.add_zero] at hcell
      rw [show b[0]?.getD 0 = kindL b from rfl] at hcell
      go_simp
      exact HR.out _ _ (Sto.refl _ _ _) rfl
    case s3 =>
      refine Grow.step_in (by rfl) (by rfl) ?_
      intro E W ec eg ef hG hd hu R HR
      have e0 : E (.tmp 0) = .slice (some ⟨B, off, none⟩) (m + 32) c := hu 0 (by kernel_rfl)
      clear hd hu
      go_simp
      exact HR.out _ _ (Sto.refl _ _ _) rfl
    case s4 =>
      refine Grow.step_in (by rfl) (by rfl) ?_
      intro E W ec eg ef hG hd hu R HR
      have e10 : E (.tmp 10) = .slice (some ⟨B, off, none⟩) (m + 32) c := hd 3 10 (by kernel_rfl)
      clear hd hu
      have hsl := run_lhm (P := Tryd.prog) 25 5 Tryd.underlying25 u8_size (some ⟨B, off, none⟩) (m + 32) c 1 9 9 1 9 9 rfl (by simp) (by simp) (by omega) (by omega) (by have := HC.out; omega) W
      go_simp
      exact HR.out _ _ (Sto.refl _ _ _) rfl
    case s5 =>
      refine Grow.step_in (by rfl) (by rfl) ?_
      intro E W ec eg ef hG hd hu R HR
      have e11 : E (.tmp 11) = .slice (cutA (some ⟨B, off, none⟩) 9 1) (9 - 1) (9 - 1) := hd 4 11 (by kernel_rfl)
      clear hd hu
      go_simp
      refine (snumber_any (HY8.out W hG)).mono ?_
      rintro _ w' ⟨rfl, hb⟩
      exact ⟨_, rfl, HR.out _ _ (Sto.of_below hb (hG.lt HQ.out.1)) rfl⟩
    case s6 =>
      refine Grow.step_in (by rfl) (by rfl) ?_
      intro E W ec eg ef hG hd hu R HR
      have e0 : E (.tmp 0) = .slice (some ⟨B, off, none⟩) (m + 32) c := hu 0 (by kernel_rfl)
      clear hd hu
      go_simp
      exact HR.out _ _ (Sto.refl _ _ _) rfl
    case s7 =>
      refine Grow.step_in (by rfl) (by rfl) ?_
      intro E W ec eg ef hG hd hu R HR
      have e3 : E (.tmp 3) = .int .i64 (m : Int) := hu 3 (by kernel_rfl)
      clear hd hu
      go_simp
      exact HR.out _ _ (Sto.refl _ _ _) rfl
    case s8 =>
      refine Grow.step_in (by rfl) (by rfl) ?_
      intro E W ec eg ef hG hd hu R HR
      have e3 : E (.tmp 3) = .int .i64 (m : Int) := hu 3 (by kernel_rfl)
      clear hd hu
      go_simp
      exact HR.out _ _ (Sto.refl _ _ _) rfl
    case s9 =>
      refine Grow.step_in (by rfl) (by rfl) ?_
      intro E W ec eg ef hG hd hu R HR
      have e13 : E (.tmp 13) = .slice (some ⟨B, off, none⟩) (m + 32) c := hd 6 13 (by kernel_rfl)
      have e14 : E (.tmp 14) = .int .i64 (m : Int) := hd 7 14 (by kernel_rfl)
      have e15 : E (.tmp 15) = .int .i64 (m : Int) := hd 8 15 (by kernel_rfl)
      clear hd hu
      have hsl := run_lhm (P := Tryd.prog) 25 5 Tryd.underlying25 u8_size (some ⟨B, off, none⟩) (m + 32) c 9 m m 9 ((m : Nat) : Int) ((m : Nat) : Int) rfl (by simp) (by simp) (by omega) (by omega) (by have := HC.out; omega) W
      go_simp
      exact HR.out _ _ (Sto.refl _ _ _) rfl
    case s10 =>
      refine Grow.step_in (by rfl) (by rfl) ?_
      intro E W ec eg ef hG hd hu R HR
      have e0 : E (.tmp 0) = .slice (some ⟨B, off, none⟩) (m + 32) c := hu 0 (by kernel_rfl)
      clear hd hu
      go_simp
      exact HR.out _ _ (Sto.refl _ _ _) rfl
    case s11 =>
      refine Grow.step_in (by rfl) (by rfl) ?_
      intro E W ec eg ef hG hd hu R HR
      have e3 : E (.tmp 3) = .int .i64 (m : Int) := hu 3 (by kernel_rfl)
      clear hd hu
      go_simp
      exact HR.out _ _ (Sto.refl _ _ _) rfl
    case s12 =>
      refine Grow.step_in (by rfl) (by rfl) ?_
      intro E W ec eg ef hG hd hu R HR
      have e3 : E (.tmp 3) = .int .i64 (m : Int) := hu 3 (by kernel_rfl)
      clear hd hu
      go_simp
      exact HR.out _ _ (Sto.refl _ _ _) rfl
    case s13 =>
      refine Grow.step_in (by rfl) (by rfl) ?_
      intro E W ec eg ef hG hd hu R HR
      have e17 : E (.tmp 17) = .slice (some ⟨B, off, none⟩) (m + 32) c := hd 10 17 (by kernel_rfl)
      have e18 : E (.tmp 18) = .int .i64 (m : Int) := hd 11 18 (by kernel_rfl)
      have e19 : E (.tmp 19) = .int .i64 (m : Int) := hd 12 19 (by kernel_rfl)
      clear hd hu
      have hsl := run_front (P := Tryd.prog) 25 5 Tryd.underlying25 u8_size (some ⟨B, off, none⟩) (m + 32) c m (by have := HC.out; omega) W
      go_simp
      exact HR.out _ _ (Sto.refl _ _ _) rfl
    case s14 =>
      refine Grow.step_in (by rfl) (by rfl) ?_
      intro E W ec eg ef hG hd hu R HR
      have e0 : E (.tmp 0) = .slice (some ⟨B, off, none⟩) (m + 32) c := hu 0 (by kernel_rfl)
      clear hd hu
      go_simp
      exact HR.out _ _ (Sto.refl _ _ _) rfl
    case s15 =>
      refine Grow.step_in (by rfl) (by rfl) ?_
      intro E W ec eg ef hG hd hu R HR
      have e3 : E (.tmp 3) = .int .i64 (m : Int) := hu 3 (by kernel_rfl)
      clear hd hu
      go_simp
      exact HR.out _ _ (Sto.refl _ _ _) rfl
    case s16 =>
      refine Grow.step_in (by rfl) (by rfl) ?_
      intro E W ec eg ef hG hd hu R HR
      have e0 : E (.tmp 0) = .slice (some ⟨B, off, none⟩) (m + 32) c := hu 0 (by kernel_rfl)
      clear hd hu
      go_simp
      exact HR.out _ _ (Sto.refl _ _ _) rfl
    case s17 =>
      refine Grow.step_in (by rfl) (by rfl) ?_
      intro E W ec eg ef hG hd hu R HR
      have e23 : E (.tmp 23) = .slice (some ⟨B, off, none⟩) (m + 32) c := hd 16 23 (by kernel_rfl)
      clear hd hu
      go_simp
      exact HR.out _ _ (Sto.refl _ _ _) rfl
    case s18 =>
      refine Grow.step_in (by rfl) (by rfl) ?_
      intro E W ec eg ef hG hd hu R HR
      have e0 : E (.tmp 0) = .slice (some ⟨B, off, none⟩) (m + 32) c := hu 0 (by kernel_rfl)
      clear hd hu
      go_simp
      exact HR.out _ _ (Sto.refl _ _ _) rfl
    case s19 =>
      refine Grow.step_in (by rfl) (by rfl) ?_
      intro E W ec eg ef hG hd hu R HR
      have e25 : E (.tmp 25) = .slice (some ⟨B, off, none⟩) (m + 32) c := hd 18 25 (by kernel_rfl)
      clear hd hu
      go_simp
      exact HR.out _ _ (Sto.refl _ _ _) rfl
    case s20 =>
      refine Grow.step_in (by rfl) (by rfl) ?_
      intro E W ec eg ef hG hd hu R HR
      have e21 : E (.tmp 21) = .slice (some ⟨B, off, none⟩) (m + 32) c := hd 14 21 (by kernel_rfl)
      have e22 : E (.tmp 22) = .int .i64 (m : Int) := hd 15 22 (by kernel_rfl)
      have e24 : E (.tmp 24) = .int .i64 ((m : Int) + 32) := hd 17 24 (by kernel_rfl)
      have e26 : E (.tmp 26) = .int .i64 ((m : Int) + 32) := hd 19 26 (by kernel_rfl)
      clear hd hu
      have hsl := run_lhm (P := Tryd.prog) 25 5 Tryd.underlying25 u8_size (some ⟨B, off, none⟩) (m + 32) c m (m + 32) (m + 32) ((m : Nat) : Int) (((m : Nat) : Int) + 32) (((m : Nat) : Int) + 32) rfl (by simp) (by simp) (by omega) (by omega) (by have := HC.out; omega) W
      rw [show cutA (some ⟨B, off, none⟩) (m + 32) m = some ⟨B, off + m, none⟩ from by simp [cutA, add_plain], Nat.add_sub_cancel_left] at hsl
      go_simp
      exact HR.out _ _ (Sto.refl _ _ _) rfl
    case s21 =>
      refine Grow.step_in (by rfl) (by rfl) ?_
      intro E W ec eg ef hG hd hu R HR
      have e27 : E (.tmp 27) = .slice (some ⟨B, off + m, none⟩) 32 32 := hd 20 27 (by kernel_rfl)
      clear hd hu
      have hat := run_arrayAt (P := Tryd.prog) W 34 5 32 (some ⟨B, off + m, none⟩) 32 32 Tryd.underlying34 (Nat.le_refl _)
      go_simp
      exact HR.out _ _ (Sto.refl _ _ _) rfl
    case s22 =>
      refine Grow.step_in (by rfl) (by rfl) ?_
      intro E W ec eg ef hG hd hu R HR
      have e28 : E (.tmp 28) = .pointer (some ⟨B, off + m, none⟩) := hd 21 28 (by kernel_rfl)
      clear hd hu
      exact runs_load_at 34 (.tmp 28) rfl ⟨B, off + m, none⟩ e28 DS (HDC.out W hG) Tryd.underlying34 (by rw [HDS.out.2]; exact id_info) (HR.out _ _ (Sto.refl _ _ _) rfl)
    case s23 =>
      refine Grow.step_in (by rfl) (by rfl) ?_
      intro E W ec eg ef hG hd hu R HR
      have e9 : E (.tmp 9) = .int .u8 ((kindL b).toNat : Int) := hd 2 9 (by kernel_rfl)
      have e12 : E (.tmp 12) = .int .u64 (num8 (eightL b) : Int) := hd 5 12 (by kernel_rfl)
      have e16 : E (.tmp 16) = .slice (cutA (some ⟨B, off, none⟩) m 9) (m - 9) (m - 9) := hd 9 16 (by kernel_rfl)
      have e20 : E (.tmp 20) = .slice (some ⟨B, off, none⟩) m m := hd 13 20 (by kernel_rfl)
      have e29 : E (.tmp 29) = .agg DS := hd 22 29 (by kernel_rfl)
      clear hd hu
      exact runs_build 56 _ rfl [(0, .int .u8 ((kindL b).toNat : Int)), (1, .int .u64 (num8 (eightL b) : Int)), (2, .slice (cutA (some ⟨B, off, none⟩) m 9) (m - 9) (m - 9)), (3, .slice (some ⟨B, off, none⟩) m m), (4, .agg DS)] (by simp [e9, e12, e16, e20, e29]) PV HPV.out.1 (HR.out _ _ (Sto.refl _ _ _) rfl)
    case s24 =>
      refine Grow.step_in (by rfl) (by rfl) ?_
      intro E W ec eg ef hG hd hu R HR
      have e2 : E (.tmp 2) = .pointer (some ⟨w.heap.size, 0, none⟩) := hu 2 (by kernel_rfl)
      have e30 : E (.tmp 30) = .agg PV := hd 23 30 (by kernel_rfl)
      clear hd hu
      obtain ⟨ds, hds, hdo⟩ := hG.old HQ.out.2.2
      exact runs_store 56 (.tmp 2) (.tmp 30) rfl w.heap.size PV e2 e30 56 ds hds (by rw [HPV.out.2.1]; exact parts_info) (by rcases hdo with rfl | rfl; exact HPV.out.2.1.symm; rfl) HPV.out.2.2 (HR.out _ _ (Sto.store hds) (setRow_at hds))
  case gfin =>
    intro W hG
    refine Grow.fin_dst (by rfl) ?_
    rintro _ rfl
    refine Grow.fin_dst (by rfl) ?_
    rintro _ rfl
    refine Grow.fin_dst (by rfl) ?_
    rintro _ rfl
    refine Grow.fin_dst (by rfl) ?_
    rintro _ rfl
    refine Grow.fin_dst (by rfl) ?_
    rintro _ rfl
    refine Grow.fin_dst (by rfl) ?_
    rintro _ rfl
    refine Grow.fin_dst (by rfl) ?_
    rintro _ rfl
    refine Grow.fin_dst (by rfl) ?_
    rintro _ rfl
    refine Grow.fin_dst (by rfl) ?_
    rintro _ rfl
    refine Grow.fin_dst (by rfl) ?_
    rintro _ rfl
    refine Grow.fin_dst (by rfl) ?_
    rintro _ rfl
    refine Grow.fin_dst (by rfl) ?_
    rintro _ rfl
    refine Grow.fin_dst (by rfl) ?_
    rintro _ rfl
    refine Grow.fin_dst (by rfl) ?_
    rintro _ rfl
    refine Grow.fin_dst (by rfl) ?_
    rintro _ rfl
    refine Grow.fin_dst (by rfl) ?_
    rintro _ rfl
    refine Grow.fin_dst (by rfl) ?_
    rintro _ rfl
    refine Grow.fin_dst (by rfl) ?_
    rintro _ rfl
    refine Grow.fin_dst (by rfl) ?_
    rintro _ rfl
    refine Grow.fin_dst (by rfl) ?_
    rintro _ rfl
    refine Grow.fin_dst (by rfl) ?_
    rintro _ rfl
    refine Grow.fin_dst (by rfl) ?_
    rintro _ rfl
    refine Grow.fin_dst (by rfl) ?_
    rintro _ rfl
    refine Grow.fin_dst (by rfl) ?_
    rintro _ rfl
    refine Grow.fin_told (by rfl) ?_
    rintro ⟨_, hK⟩
    simp only [Act.put, List.setIfInBounds_toArray, List.set_cons_zero, List.set_cons_succ]
    refine Grow.fin_end ?_
    have HG : Hid (Below w.heap.size w W) := Lib.hid (HB.out W hG)
    have HK := Lib.hid hK
    clear hG hK
    go_wp2_with fail
    exact bodyPost_ret (results_cell_row rfl _ _ w.heap.size 56 PV (0, 0) _ rfl HK.out Tryd.underlying56 rfl (by rw [HPV.out.2.1]; exact parts_info)) rfl ⟨rfl, HG.out⟩
end Go.Proofs.YtlkkocgjpljibaaDoor
