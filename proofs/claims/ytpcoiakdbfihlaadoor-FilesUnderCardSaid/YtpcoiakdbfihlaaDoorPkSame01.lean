/-
  Files: the laws' few.
  Files: a slice of files that came in.
-/
import Derived.BigQuiet
import Derived.Test.YtpcoiakdbfihlaaDoorPk05
import Derived.Test.YtpcoiakdbfihlaaDoorPk11
import Derived.Deep.Strs
import Derived.ChangeSame
/-! Files: the laws' few. -/
namespace Go.Proofs.YtpcoiakdbfihlaaDoor
open Go.RowKit Codec

/-- While they are counted: the sum may wrap. -/
def FwR (w : World) (n : Nat) (z i : Value) (wr : World) : Prop :=
  ∃ (j : Nat) (s : Int), j ≤ n ∧ i = .int .i64 (j : Int) ∧ z = .int .i64 s ∧ Below w.heap.size w wr
/-- What few tells. -/
def FwP (w : World) (n : Nat) (e : Ending) (w' : World) : Prop := ∃ B, e = .returned (.bool B) ∧ (B = true → n ≤ 20) ∧ Below w.heap.size w w'
set_option maxHeartbeats 8000000 in
set_option maxRecDepth 100000 in
theorem few_any {w : World} {S : Nat → Prop} {A : Option Addr} {n c : Nat} {l : Tb} (h : Fls w S A n c l) :
    Calls Tryd.prog 10 #[.slice A n c] w fun e w' => FwP w n e w' := by
  have hmx := h.max
  have HS := Lib.hid (And.intro h (And.intro h.len (show n ≤ maxLen from Nat.le_trans h.cap hmx)))
  clear h hmx
  go_enter Tryd.func10, Tryd.ntmps10
  go_wp2_with fail
  go_loopw [3, 4] (fun z i wr => FwR w n z i wr) (fun _ i _ => n - (intOf i).toNat)
  case atStart => exact ⟨0, 0, Nat.zero_le _, rfl, rfl, Below.refl _ _⟩
  case round =>
    obtain ⟨j, s, hj, rfl, rfl, hbel⟩ := hrel
    by_cases hlt : j < n
    · have hlt' : (j : Int) < (n : Int) := by omega
      have hadd1 := IntWalk.i64_in ((j : Int) + 1) (by have h1 := HS.out.2.2; unfold maxLen at h1; omega)
      obtain ⟨b, off, x, Ax, nx, cx, rfl, _, hb, hx, hcs, hy⟩ := HS.out.1.at_ hlt
      have hc0 : wr.cell? ⟨b, off + j * 2, none⟩ = some (.string (st x.1)) := (hbel.cell (p := ⟨_, _, none⟩) hb).trans (by have := hcs 0 _ rfl; rwa [add_plain] at this)
      have hc1 : wr.cell? ⟨b, off + j * 2 + 1, none⟩ = some (.slice Ax nx cx) := (hbel.cell (p := ⟨_, _, none⟩) hb).trans (by have := hcs 1 _ rfl; rwa [add_plain] at this)
      have hsz := st_size x.1
      obtain ⟨S1, hS1⟩ : ∃ S1, IntKind.i64.wrap ((x.1.length : Int) + (nx : Int)) = S1 := ⟨_, rfl⟩
      obtain ⟨S2, hS2⟩ : ∃ S2, IntKind.i64.wrap (s + S1) = S2 := ⟨_, rfl⟩
      have HB := Lib.hid hbel
      clear hbel hb hx hcs hy
      go_wp2_with fail
      go_quiet (fail)
      go_wp2_with fail
      go_roundw
      case rel => exact ⟨j + 1, S2, by omega, by simp, rfl, below_drewN HB.out _⟩
      case measure => simp only [intOf]; omega
    · have hlt' : ¬ (j : Int) < (n : Int) := by omega
      by_cases h20 : n ≤ 20
      · have h20' : (n : Int) ≤ 20 := by omega
        by_cases hs : s ≤ 2000
        · go_wp2_with fail
          go_ret
          exact ⟨true, rfl, fun _ => h20, hbel⟩
        · go_wp2_with fail
          go_ret
          exact ⟨_, rfl, fun _ => h20, hbel⟩
      · have h20' : ¬ (n : Int) ≤ 20 := by omega
        go_wp2_with fail
        go_ret
        exact ⟨false, rfl, (fun h => absurd h (by decide)), hbel⟩
end Go.Proofs.YtpcoiakdbfihlaaDoor

/-! Files: a slice of files that came in. -/
namespace Go.Proofs.YtpcoiakdbfihlaaDoor
open Go.ChangeShapes Go.WideShapes Go.ChangeAt Go.RowKit Go.Deep
set_option maxRecDepth 100000

set_option maxRecDepth 100000 in
/-- A file's cells, as they came in. -/
theorem fi_cells {w : World} {H : Type} {enc : TypeId × Value → H} {base : Nat} {held : Bool} {cs : List Value} {fuel : Nat} {x : DataW H × List MemPlace} (hl : cs.length = 2) (h : DataW.trod enc Tryd.prog w base (fun _ => true) held fuel 50 cs = some x) :
    ∃ (A : Option Addr) (n c : Nat) (q : Fi), cs = (fiV A n c q).toList ∧ Byt w (· < w.heap.size) A n c q.2 ∧ q.1.length ≤ maxLen := by
  have h3 : Tryd.prog.cellsOf 9 = 1 := by kernel_rfl
  have h8 : Tryd.prog.cellsOf 27 = 1 := by kernel_rfl
  obtain ⟨y0, y1, n', _, _, t0, t1⟩ := trod_struct2 Tryd.underlying50 h
  match cs, hl with
  | [v0, v1], _ =>
    simp only [h3, h8] at t0 t1
    obtain ⟨s, e0, _, hs⟩ := DataW.trod_string Tryd.underlying9 t0
    simp at e0
    subst e0
    have t1' : DataW.trod enc Tryd.prog w base (fun _ => true) held n' 27 [v1] = some y1 := t1
    have hv : ∃ A k c', v1 = .slice A k c' := by
      rcases open_ints Tryd.underlying27 Tryd.underlying5 (by kernel_rfl) t1' with ⟨e, _⟩ | ⟨_, _, _, _, e, _⟩ <;> simp at e <;> exact ⟨_, _, _, e⟩
    obtain ⟨A, k, c', rfl⟩ := hv
    obtain ⟨bb, hb2⟩ := bytes_in (enc := enc) (base := base) (held := held) (d := y1.1) (p := y1.2) rfl ⟨n', t1'⟩
    refine ⟨A, k, c', (s.data.toList, bb), ?_, hb2.mono fun b hb _ => hb, ?_⟩
    · have hs2 : st s.data.toList = s := by
        show (⟨s.data.toList.toArray⟩ : ByteArray) = s
        rw [Array.toArray_toList]
      rw [show (fiV A k c' (s.data.toList, bb)).toList = [.string (st s.data.toList), .slice A k c'] from rfl, hs2]
    · show s.data.toList.length ≤ maxLen
      rw [Array.length_toList]
      exact hs
set_option maxRecDepth 100000 in
theorem fils_in {w : World} {H : Type} {enc : TypeId × Value → H} {base : Nat} {spare : Nat → Bool} {held : Bool} {a : Option Addr} {len cap : Nat} {d : DataW H} {p : List MemPlace}
    (hs : spare = fun _ => true) (h : DataW.Trod enc Tryd.prog w base spare held 22 (.slice a len cap) d p) : ∃ l, Fls w (· < w.heap.size) a len cap l ∧ ∀ x ∈ l, x.1.length ≤ maxLen := by
  subst hs
  obtain ⟨fuel, hf⟩ := h
  rcases open_slice Tryd.underlying22 hf with ⟨hcs, _⟩ | ⟨x, l, c, m, n, D, Pl, hcs, _, hl, hm, hmm, _, hi⟩
  · simp [Value.cells] at hcs
    obtain ⟨rfl, rfl, rfl⟩ := hcs
    exact ⟨[], Fls.nil _ _ _ _ (Nat.zero_le _), fun _ h => by cases h⟩
  · simp [Value.cells] at hcs
    obtain ⟨rfl, rfl, rfl⟩ := hcs
    have hce : Tryd.prog.cellsOf 50 = 2 := by kernel_rfl
    rw [hce] at hi
    simp only [if_true] at hmm
    have one : ∀ i, ∃ q : (Option Addr × Nat × Nat) × Fi, i < len → (∀ (j : Nat) (v : Value), (fiV q.1.1 q.1.2.1 q.1.2.2 q.2)[j]? = some v → w.cell? ((x.add (i * 2)).add j) = some v) ∧ Byt w (· < w.heap.size) q.1.1 q.1.2.1 q.1.2.2 q.2.2 ∧ q.2.1.length ≤ maxLen := fun i => by
      by_cases him : i < len
      · obtain ⟨cs', hc, ht⟩ := hi i (by omega)
        obtain ⟨_, hcl, hat⟩ := World.cells?_some hc
        obtain ⟨A, k, c', q, rfl, hb, hq⟩ := fi_cells hcl ht
        refine ⟨((A, k, c'), q), fun _ => ⟨fun j v hv => ?_, hb, hq⟩⟩
        have hj : j < 2 := by
          have := (Array.getElem?_eq_some_iff.1 hv).1
          simpa [fiV] using this
        have h5 := hat j hj
        rw [h5]
        simpa using hv
      · exact ⟨((none, 0, 0), ([], [])), fun h => absurd h him⟩
    obtain ⟨f, hf⟩ := Classical.skolem.1 one
    refine ⟨(List.range len).map fun i => (f i).2, ⟨by simp, hl, hm, fun h0 => ?_⟩, fun x hx => by obtain ⟨i, hi, rfl⟩ := List.mem_map.1 hx; exact (hf i (List.mem_range.1 hi)).2.2⟩
    obtain ⟨b, off, spot⟩ := x
    have hc0 := (hf 0 h0).1 0 _ rfl
    have hspot : spot = none := by simpa [Addr.add] using World.cell?_spot hc0
    subst hspot
    have hlt := World.block_lt_of_cell? _ _ hc0
    rw [add_plain, add_plain] at hlt
    refine ⟨b, off, rfl, hlt, hlt, fun i q hq => ?_⟩
    have hil : i < len := by
      have := (List.getElem?_eq_some_iff.1 hq).1; simpa using this
    obtain rfl : (f i).2 = q := by simpa [hil] using hq
    refine ⟨_, _, _, fun j v hv => ?_, (hf i hil).2.1⟩
    have := (hf i hil).1 j v hv
    rwa [add_plain, add_plain] at this
end Go.Proofs.YtpcoiakdbfihlaaDoor
