/-
  codec.Writer: what each of its methods does, told of a writer that holds a list of bytes ('Wr').
  Files: the tree of bytes.
  Files: strings.Compare's order, the first of rising paths that is not below a text.
  codec.Writer, its further methods.
  codec.Writer: Bytes, Bool, Out, NewWriter; a Writer and a Reader that are none.
-/
import Derived.Test.YtpcoiakdbfihlaaDoorPk04
import Derived.Test.YtpcoiakdbfihlaaDoorPk02
import Derived.Maps.AppendAt
import Derived.Test.YtpcoiakdbfihlaaDoorPk08
import Derived.Test.YtpcoiakdbfihlaaDoorPk05
/-! codec.Writer: what each of its methods does, told of a writer that holds a list of bytes ('Wr'). -/
namespace Go.Proofs.YtpcoiakdbfihlaaDoor
open Go.RowKit Codec

/-- THE STRUCT AT BLOCK p IS A WRITER that holds the bytes l; all its memory lies in blocks of S. -/
def Wr (w : World) (S : Nat → Prop) (p : Nat) (l : List UInt8) : Prop :=
  S p ∧ ∃ A c, w.heap[p]? = some (.cells #[.slice A l.length c] 86 (0, 0)) ∧ w.ownsRow 0 5 1 (.slice A l.length c) l.length (u8s l) ∧ ∀ a, A = some a → S a.block

section
variable {w w' : World} {S : Nat → Prop} {p : Nat} {l : List UInt8}
theorem Wr.lt (h : Wr w S p l) : p < w.heap.size := by
  obtain ⟨_, A, c, hh, _⟩ := h
  exact lt_of_cells hh
theorem own_lt {base : Nat} {e : TypeId} {size : Nat} {A : Option Addr} {n c : Nat} {xs : List Value} (h : w.ownsRow base e size (.slice A n c) n xs) : ∀ a, A = some a → a.block < w.heap.size := by
  rintro a rfl
  exact (h.lt a.block rfl).2
theorem Wr.mono {T : Nat → Prop} (h : Wr w S p l) (hS : ∀ b, b < w.heap.size → S b → T b) : Wr w T p l := by
  have hlt := h.lt
  obtain ⟨hp, A, c, hh, ho, hs⟩ := h
  exact ⟨hS _ hlt hp, A, c, hh, ho, fun a ha => hS _ (own_lt ho a ha) (hs a ha)⟩
/-- What a writer does not hold may turn. -/
theorem Wr.turned {T : Nat → Prop} (h : Wr w S p l) (ht : Turned T w w') (hd : ∀ b, b < w.heap.size → S b → ¬ T b) : Wr w' S p l := by
  have hlt := h.lt
  obtain ⟨hp, A, c, hh, ho, hs⟩ := h
  refine ⟨hp, A, c, (ht.block p hlt (hd p hlt hp)).trans hh, ?_, hs⟩
  obtain ⟨h1, h2⟩ := ho
  refine ⟨h1, ?_⟩
  rcases h2 with h2 | ⟨g, cap, cur, hv, hg, hhg, r⟩
  · exact .inl h2
  · have hgl := lt_of_cells hhg
    have hsg : S g := hs ⟨g, 0, none⟩ (by injection hv)
    exact .inr ⟨g, cap, cur, hv, hg, (ht.block g hgl (hd g hgl hsg)).trans hhg, r⟩
theorem Rd.turned {e : Int} {T : Nat → Prop} (h : Rd w S p l e) (ht : Turned T w w') (hd : ∀ b, b < w.heap.size → S b → ¬ T b) : Rd w' S p l e := by
  have hlt := h.lt
  obtain ⟨hB, A, n, c, hh, hy⟩ := h
  exact ⟨hB, A, n, c, (ht.block p hlt (hd p hlt hB)).trans hh, hy.turned ht hd⟩

/-- The store behind an append: the writer then. -/
theorem Wr.put_back {w1 : World} {l m : List UInt8} {A A' : Option Addr} {c c' n : Nat} (hp : S p) (hh : w.heap[p]? = some (.cells #[.slice A l.length c] 86 (0, 0))) (ho : w.ownsRow 0 5 1 (.slice A l.length c) l.length (u8s l)) (hs : ∀ a, A = some a → S a.block)
    (hsz : w.heap.size ≤ w'.heap.size) (hw : ∀ k, k < w.heap.size → w'.heap[k]? = w.heap[k]?)
    (ho1 : w1.ownsRow 0 5 1 (.slice A' n c') n (u8s l ++ u8s m)) (hn : n = l.length + m.length) (hg : w'.grownBy w1 (Value.slice A l.length c).ownBlock)
    (hat : (Value.slice A' n c').ownBlock = (Value.slice A l.length c).ownBlock ∨ (Value.slice A' n c').ownBlock = some w'.heap.size) :
    Wr (w1.setCell ⟨p, 0, none⟩ (.slice A' n c')) (fun b => S b ∨ w.heap.size ≤ b) p (l ++ m) := by
  have hplt := lt_of_cells hh
  have hne : ∀ g, (Value.slice A l.length c).ownBlock = some g → g ≠ p := by
    rintro g hg rfl
    rcases ho.2 with ⟨hv, _⟩ | ⟨g', cap, cur, hv, _, hhg, _⟩
    · rw [hv] at hg; simp [Value.ownBlock] at hg
    · rw [hv] at hg
      simp [Value.ownBlock] at hg
      subst hg
      rw [hh] at hhg
      injection hhg with hhg
      injection hhg with _ ht _
      exact absurd ht (by decide)
  have hp1 : w1.heap[p]? = some (.cells #[.slice A l.length c] 86 (0, 0)) :=
    (hg.block p (by omega) (fun e => hne p e.symm rfl)).trans ((hw p hplt).trans hh)
  have hlen : n = (l ++ m).length := by rw [hn, List.length_append]
  subst hlen
  rw [← u8s_append] at ho1
  have hne1 : ∀ g, (Value.slice A' (l ++ m).length c').ownBlock = some g → g ≠ p := by
    intro g hg1
    rcases hat with e | e
    · rw [e] at hg1; exact hne g hg1
    · rw [e] at hg1; injection hg1; omega
  refine ⟨.inl hp, A', c', by simpa using set_of_cells hp1 0 _, ?_, ?_⟩
  · obtain ⟨h1, h2⟩ := ho1
    refine ⟨h1, ?_⟩
    rcases h2 with h2 | ⟨g, cap, cur, hv, hgb, hhg, r⟩
    · exact .inl h2
    · have : g ≠ p := hne1 g (by rw [hv]; rfl)
      exact .inr ⟨g, cap, cur, hv, hgb, (Below.heap_setCell _ _ _ _ this).trans hhg, r⟩
  · rintro a rfl
    rcases hat with e | e
    · rcases A with _ | a0
      · simp [Value.ownBlock] at e
      · simp [Value.ownBlock] at e
        exact .inl (by rw [e]; exact hs a0 rfl)
    · simp [Value.ownBlock] at e
      exact .inr (by omega)
end

theorem own_wr {S : Nat → Prop} {A : Option Addr} {n c : Nat} (hs : ∀ a, A = some a → S a.block) : ∀ g, (Value.slice A n c).ownBlock = some g → S g := by
  intro g hg
  rcases A with _ | a
  · simp [Value.ownBlock] at hg
  · simp [Value.ownBlock] at hg
    rw [← hg]; exact hs a rfl

/-- What the walk is told behind an append to a writer's bytes. -/
theorem Wr.app {w wx w1 : World} {S : Nat → Prop} {p : Nat} {l m : List UInt8} {A A' : Option Addr} {c c' n : Nat} (hp : S p) (hh : w.heap[p]? = some (.cells #[.slice A l.length c] 86 (0, 0))) (ho : w.ownsRow 0 5 1 (.slice A l.length c) l.length (u8s l)) (hs : ∀ a, A = some a → S a.block)
    (hx : Below w.heap.size w wx) (ho1 : w1.ownsRow 0 5 1 (.slice A' n c') n (u8s l ++ u8s m)) (hn : n = l.length + m.length) (hg : wx.grownBy w1 (Value.slice A l.length c).ownBlock)
    (hat : (Value.slice A' n c').ownBlock = (Value.slice A l.length c).ownBlock ∨ (Value.slice A' n c').ownBlock = some wx.heap.size) :
    w1.cell? ⟨p, 0, none⟩ = some (.slice A l.length c) ∧ w1.frozen? ⟨p, 0, none⟩ = false ∧
      Hid (Wr (w1.setCell ⟨p, 0, none⟩ (.slice A' n c')) (fun b => S b ∨ w.heap.size ≤ b) p (l ++ m) ∧ Turned S w (w1.setCell ⟨p, 0, none⟩ (.slice A' n c'))) := by
  have hplt := lt_of_cells hh
  have hne : (Value.slice A l.length c).ownBlock ≠ some p := by
    intro hg
    rcases ho.2 with ⟨hv, _⟩ | ⟨g', cap, cur, hv, _, hhg, _⟩
    · rw [hv] at hg; simp [Value.ownBlock] at hg
    · rw [hv] at hg
      simp [Value.ownBlock] at hg
      subst hg
      rw [hh] at hhg
      injection hhg with hhg
      injection hhg with _ ht _
      exact absurd ht (by decide)
  have hp1 : w1.heap[p]? = some (.cells #[.slice A l.length c] 86 (0, 0)) :=
    (hg.block p (Nat.lt_of_lt_of_le hplt hx.size) (fun e => hne e.symm)).trans ((hx.block p hplt).trans hh)
  refine ⟨by rw [cell_of_cells hp1 0]; rfl, free_of_cells hp1 0, ?_⟩
  refine ⟨Wr.put_back hp hh ho hs hx.size (fun k hk => hx.block k hk) ho1 hn hg hat, ?_⟩
  exact ((Turned.of_below hx).trans (Turned.of_gr hg (own_wr hs)) fun _ _ h => h).set hp _ _



theorem own_cap {w : World} {base : Nat} {e : TypeId} {size : Nat} {A : Option Addr} {n c : Nat} {xs : List Value} (h : w.ownsRow base e size (.slice A n c) n xs) : n ≤ c := by
  rcases h.2 with ⟨hv, rfl⟩ | ⟨g', cap, cur, hv, _, _, hn, _⟩
  · omega
  · injection hv with _ _ hc; omega

/-- The post of a writer's call. -/
def Put (w : World) (S : Nat → Prop) (p : Nat) (l : List UInt8) (e : Ending) (w' : World) : Prop := e = .returned (.tuple #[]) ∧ Wr w' (fun b => S b ∨ w.heap.size ≤ b) p l ∧ Turned S w w'

set_option maxHeartbeats 1000000 in
theorem wfixed {w : World} {S T : Nat → Prop} {p : Nat} {l m : List UInt8} {A : Option Addr} {n c : Nat} (h : Wr w S p l) (hm : Byt w T A n c m) (hb : l.length + n ≤ 140737488355328) :
    Calls Tryd.prog 50 #[.pointer (some ⟨p, 0, none⟩), .slice A n c] w (Put w S p (l ++ m)) := by
  obtain ⟨i0, hi, hz0, hz1, hz2⟩ := info_parts u8_info
  have hmax := hm.max
  have hcap := hm.cap
  have hmlen := hm.len
  have hW := Lib.hid h
  obtain ⟨hp, A0, c0, hh, ho, hs⟩ := h
  have h0 := cell_of_cells hh 0
  simp only [List.getElem?_toArray, List.getElem?_cons_zero] at h0
  have f0 := free_of_cells hh 0
  have hoc := own_cap ho
  have HH := Lib.hid hh
  have HO := Lib.hid ho
  have HL := Lib.hid hmlen
  rcases A with _ | ad
  · have hn0 : n = 0 := by
      rcases Nat.eq_zero_or_pos n with h0 | h0
      · exact h0
      · obtain ⟨_, _, hA, _⟩ := hm.row h0
        cases hA
    subst hn0
    obtain rfl : m = [] := List.eq_nil_of_length_eq_zero hmlen
    have fin : Put w S p (l ++ []) (.returned (.tuple #[])) (w.setCell ⟨p, 0, none⟩ (.slice A0 l.length c0)) := by
      rw [List.append_nil]
      refine ⟨rfl, ⟨.inl hp, A0, c0, by simpa using set_of_cells hh 0 (.slice A0 l.length c0), ?_, fun a ha => .inl (hs a ha)⟩, (Turned.refl _ _).set hp _ _⟩
      obtain ⟨h1, h2⟩ := ho
      refine ⟨h1, ?_⟩
      rcases h2 with h2 | ⟨g, cap, cur, hv, hgb, hhg, r⟩
      · exact .inl h2
      · have : g ≠ p := by
          rintro rfl
          rw [hh] at hhg
          injection hhg with hhg
          injection hhg with _ ht _
          exact absurd ht (by decide)
        exact .inr ⟨g, cap, cur, hv, hgb, (Below.heap_setCell _ _ _ _ this).trans hhg, r⟩
    clear hm hh ho hmlen
    go_enter Tryd.func50, Tryd.ntmps50
    go_wp2_with (at_builtin; refine wpList_append_zero (by rfl) _ _ 27 (by rfl) 5 i0 Tryd.underlying27 hi A0 l.length c0 c hoc (by rfl) (by rfl) ?_)
    go_end0
    exact fin
  · have hnews := byt_news hm
    have hlen := u8s_length m
    have hone := u8s_one m
    clear hm hh ho hmlen
    go_enter Tryd.func50, Tryd.ntmps50
    go_wp2_with (at_builtin; refine wpList_append_own_at _ rfl _ _ 27 rfl 0 5 i0 (.int .u8 0) 1 1 Tryd.underlying27 hi hz0 hz1 hz2 rfl (by decide) _ l.length (u8s l) rfl HO.out ad n c (u8s m) rfl ?qc1 hnews hone ?qc4 ?qc5 ?qc6 ?_)
    case qc1 => rw [hlen, HL.out]; omega
    case qc4 => unfold maxLen at *; omega
    case qc5 => omega
    case qc6 => simp
    intro v' w1 hown hgrow hnn hat
    obtain ⟨A', c', rfl, _⟩ := own_byt (l := l ++ m) (by rw [u8s_append]; exact hown)
    obtain ⟨g1, g2, g3⟩ := Wr.app hp HH.out HO.out hs (Below.refl _ _) hown (by rw [HL.out]) hgrow hat
    clear hown hgrow hnn hat h0 f0 hnews
    go_wp2
    go_end0
    exact ⟨rfl, g3.out⟩
end Go.Proofs.YtpcoiakdbfihlaaDoor

/-! Files: the tree of bytes. -/
namespace Go.Proofs.YtpcoiakdbfihlaaDoor
open Go.RowKit Codec

def fgGo : Nat → Tb → List UInt8 → Int → Tb × List UInt8 × Int
  | 0, acc, l, e => (acc, l, e)
  | m + 1, acc, l, e =>
    if byE (byL l e 255) (byE l e 255) 1048576 ≠ 0 then (acc, byL (byL l e 255) (byE l e 255) 1048576, byE (byL l e 255) (byE l e 255) 1048576)
    else fgGo m (acc ++ [(byB l e 255, byB (byL l e 255) (byE l e 255) 1048576)]) (byL (byL l e 255) (byE l e 255) 1048576) (byE (byL l e 255) (byE l e 255) 1048576)
def fgEnd (r : Tb × List UInt8 × Int) : Tb × Int := if endE r.2.1 r.2.2 ≠ 0 then ([], endE r.2.1 r.2.2) else if chkE r.1 ≠ 0 then ([], 11) else (r.1, 0)
/-- THE TREE OF BYTES. -/
def getF (b : List UInt8) : Tb × Int := if 65536 < uiX b 0 then ([], 13) else fgEnd (fgGo (uiX b 0) [] (uiL b 0) (uiE b 0))

/-- Within a round: a reader, a file that is being read, the files ahead of it. -/
structure FgS (w1 W : World) (S1 S2 : Nat → Prop) (p x0 : Nat) (l : List UInt8) (e : Int) (v : Value) (acc : Tb) (CS : Array Value) : Prop where
  rd : Rd W S1 p l e
  gc : Gfi W S2 v acc
  tn : Turned (fun k => k = p) w1 W
  row : W.heap[x0]? = some (.cells CS 50 (0, 0))
section
variable {w1 W W' : World} {S1 S2 : Nat → Prop} {p x0 : Nat} {l l' : List UInt8} {e e' : Int} {v : Value} {acc : Tb} {CS : Array Value}
theorem turnedF_of_gr {p : Nat} (h : W.grownBy W' (some p)) : Turned (fun k => k = p) W W' := Turned.of_gr h fun _ e => (Option.some.inj e).symm
theorem FgS.call (h : FgS w1 W S1 S2 p x0 l e v acc CS) (h2 : ∀ k, S2 k → k ≠ p) (h0 : x0 ≠ p) (hg : W.grownBy W' (some p)) (hr : Rd W' S1 p l' e') : FgS w1 W' S1 S2 p x0 l' e' v acc CS :=
  ⟨hr, h.gc.turned (turnedF_of_gr hg) fun k _ hk e => h2 k hk e, h.tn.trans (turnedF_of_gr hg) fun _ _ h => h, ((turnedF_of_gr hg).block x0 (lt_of_cells h.row) h0).trans h.row⟩
theorem FgS.store (h : FgS w1 W S1 S2 p x0 l e v acc CS) (h1 : ¬ S1 x0) (h2 : ¬ S2 x0) (h0 : w1.heap.size ≤ x0) (i : Nat) (u : Value) : FgS w1 (W.setCell ⟨x0, i, none⟩ u) S1 S2 p x0 l e v acc (CS.setIfInBounds i u) := by
  have ht : Turned (fun k => k = x0) W (W.setCell ⟨x0, i, none⟩ u) := (Turned.refl (fun k => k = x0) W).set rfl i u
  refine ⟨?_, h.gc.turned ht fun k _ hk e => h2 (by rw [← show k = x0 from e]; exact hk), h.tn.trans ht fun k hk e => by omega, set_of_cells h.row i u⟩
  exact h.rd.turned ht fun k _ hk e => h1 (by rw [← show k = x0 from e]; exact hk)
end
/-- The loop's state. -/
def FgR (w w1 : World) (p M : Nat) (l0 : List UInt8) (e0 : Int) (N : Nat) (v i : Value) (wr : World) : Prop :=
  ∃ (j : Nat) (acc : Tb) (l : List UInt8) (e : Int), i = .int .u64 (j : Int) ∧ j ≤ M ∧ fgGo M [] l0 e0 = fgGo (M - j) acc l e ∧ Rd wr (fun k => w.heap.size ≤ k ∧ k < w1.heap.size) p l e ∧ Gfi wr (w1.heap.size ≤ ·) v acc ∧ Turned (fun k => k = p) w1 wr ∧ acc.length + l.length ≤ N ∧ (∀ x ∈ acc, x.1.length ≤ 255) ∧ acc.length = j
/-- What Get tells. -/
def FgPost (w : World) (r : Tb × Int) (e : Ending) (w' : World) : Prop :=
  ∃ A c, e = .returned (.tuple #[.slice A r.1.length c, .int .i64 r.2]) ∧ Fls w' (w.heap.size ≤ ·) A r.1.length c r.1 ∧ Below w.heap.size w w'
theorem fgPost_nil {w w' : World} {r : Tb × Int} {E : Int} (hr : r = ([], E)) (hb : Below w.heap.size w w') : FgPost w r (.returned (.tuple #[.slice none 0 0, .int .i64 E])) w' := by
  subst hr
  exact ⟨none, 0, rfl, Fls.nil _ _ _ _ (Nat.zero_le _), hb⟩
set_option maxHeartbeats 8000000 in
set_option maxRecDepth 100000 in
theorem fget_any {w : World} {S : Nat → Prop} {A : Option Addr} {n c : Nat} {b : List UInt8} (hb : Byt w S A n c b) (hn : n ≤ 100000000) :
    Calls Tryd.prog 18 #[.slice A n c] w fun e w' => FgPost w (getF b) e w' := by
  have hnr := newReader hb (by omega)
  have HN := Lib.hid (And.intro hb.len hn)
  have hzc := zero_fi
  clear hb hn
  go_enter Tryd.func18, Tryd.ntmps18
  go_upto_region 2 with (go_at_call 36; refine hnr.mono ?_; clear hnr; rintro _ w1 ⟨p, rfl, hr1, hb1⟩)
  have hr1 := hr1.mono (T := fun k => w.heap.size ≤ k ∧ k < w1.heap.size) fun k hk h => ⟨h, hk⟩
  have hu1 := uint_any hr1
  have HB1 := Lib.hid (And.intro hb1 hr1.1)
  clear hr1 hb1
  obtain ⟨M, hM⟩ : ∃ M, M = uiX b 0 := ⟨_, rfl⟩
  obtain ⟨l0, hl0⟩ : ∃ l0, l0 = uiL b 0 := ⟨_, rfl⟩
  obtain ⟨e0, he0⟩ : ∃ e0, e0 = uiE b 0 := ⟨_, rfl⟩
  have hMl : M < 18446744073709551616 := by rw [hM]; exact uiX_lt _ _
  have hl0n : l0.length ≤ n := by
    have h1 := uiL_length b 0
    have h3 := HN.out.1
    rw [hl0]
    omega
  rw [← hM, ← hl0, ← he0] at hu1
  by_cases hk : 65536 < M
  · have hk' : (M : Int) > 65536 := by omega
    have HR : Hid (getF b = ([], 13)) := Lib.hid (by unfold getF; rw [if_pos (by rw [← hM]; exact hk)])
    clear hM hl0 he0 hMl hl0n hk
    go_wp2_with (go_at_call 37; refine hu1.mono ?_; clear hu1; rintro _ w2 ⟨rfl, hr2, hg2⟩)
    go_ret2
    exact fgPost_nil HR.out (HB1.out.1.trans (((turnedF_of_gr hg2).mono (T := (w.heap.size ≤ ·)) fun k _ e => by rw [show k = p from e]; exact HB1.out.2.1).below HB1.out.1.size))
  have hk' : ¬ (M : Int) > 65536 := by omega
  have HR : Hid (getF b = fgEnd (fgGo M [] l0 e0)) := Lib.hid (by
    unfold getF
    rw [if_neg (by rw [← hM]; exact hk), hM, hl0, he0])
  have HM := Lib.hid (show M ≤ 65536 by omega)
  clear hM hl0 he0 hk hMl
  go_upto_region 3 with (go_at_call 37; refine hu1.mono ?_; clear hu1; rintro _ w3 ⟨rfl, hr3, hg3⟩)
  have H0 : Hid (FgR w w1 p M l0 e0 n (.slice none 0 0) (.int .u64 0) w3) := Lib.hid ⟨0, [], l0, e0, rfl, Nat.zero_le _, rfl, hr3, Gfi.nil _ _, turnedF_of_gr hg3, by simpa using hl0n, fun x h => by simp at h, rfl⟩
  clear hr3 hg3 hl0n
  go_wp2_with fail
  go_loopw [6, 17] (fun v i wr => FgR w w1 p M l0 e0 n v i wr) (fun _ i _ => M - (intOf i).toNat)
  case atStart => exact H0.out
  case round =>
    obtain ⟨j, acc, l, e, rfl, hj, hgo, hr, hg, ht, hl, hac, haj⟩ := hrel
    clear H0
    by_cases hlt : j < M
    · have hlt' : (j : Int) < (M : Int) := by omega
      have hs1 : IntKind.u64.wrap ((j : Int) + 1) = (j : Int) + 1 := IntWalk.u64_in _ (by have := HM.out; omega)
      have HL := Lib.hid (And.intro hgo (And.intro hlt (And.intro hl (And.intro hac haj))))
      have hp1 : p < w1.heap.size := HB1.out.2.2
      obtain ⟨A5, c5, rfl, _⟩ := hg.slice
      have H5 : Hid (FgS w1 (wr.alloc (.cells #[.string ⟨#[]⟩, .slice none 0 0] 50)) (fun k => w.heap.size ≤ k ∧ k < w1.heap.size) (fun k => w1.heap.size ≤ k ∧ k < wr.heap.size) p wr.heap.size l e (.slice A5 acc.length c5) acc #[.string ⟨#[]⟩, .slice none 0 0]) :=
        Lib.hid ⟨hr.turned (T := fun _ => False) (Turned.of_below ((Below.refl _ _).alloc (Nat.le_refl _) _)) fun _ _ _ h => h, (hg.mono fun k hk h => ⟨h, hk⟩).below ((Below.refl _ _).alloc (Nat.le_refl _) _), ht.alloc _, heap_alloc_new wr _⟩
      have HX : Hid (p ≠ wr.heap.size ∧ w1.heap.size ≤ wr.heap.size ∧ p < w1.heap.size) := Lib.hid ⟨by have := ht.size; omega, ht.size, hp1⟩
      have HS2 : Hid (∀ k, w1.heap.size ≤ k ∧ k < wr.heap.size → k ≠ p) := Lib.hid fun k hk e => by omega
      have hln : l.length ≤ 140737488355328 := by have := HN.out.2; omega
      have HLN := Lib.hid hln
      clear hr hg ht hgo hj hl hp1 hln hac haj hlt
      go_upto_region 9 with fail
      generalize (wr.alloc (.cells #[.string ⟨#[]⟩, .slice none 0 0] 50)) = w5 at *
      generalize wr.heap.size = x0 at *
      have hby := bytes_any (most := 255) H5.out.rd HLN.out (by omega)
      obtain ⟨K, hK⟩ : ∃ K, K = byB l e 255 := ⟨_, rfl⟩
      obtain ⟨l1, hl1⟩ : ∃ l1, l1 = byL l e 255 := ⟨_, rfl⟩
      obtain ⟨e1, he1⟩ : ∃ e1, e1 = byE l e 255 := ⟨_, rfl⟩
      rw [← hK, ← hl1, ← he1] at hby
      have HEQ := Lib.hid (And.intro hK (And.intro hl1 he1))
      have HL1 : Hid (l1.length ≤ 140737488355328) := Lib.hid (by have := byL_len l e 255; have := HLN.out; rw [hl1]; omega)
      clear hK hl1 he1
      go_upto_region 10 with (go_at_call 38; refine hby.mono ?_; clear hby; rintro _ w6 ⟨A6, n6, c6, rfl, hy6, hr6, hg6, _⟩; have hcs : (convert 27 9 (.slice A6 n6 c6)).run Tryd.prog w6 = .ok (.string (st K)) w6 := byt_string hy6; have H6 := Lib.hid (H5.out.call HS2.out HX.out.1.symm hg6 hr6); have hc0 := cell_of_cells H6.out.row 0; have hf0 := free_of_cells H6.out.row 0; clear hy6 hr6 hg6)
      have H7 := Lib.hid (H6.out.store (fun h => by have := HX.out.2.1; omega) (fun h => by omega) HX.out.2.1 0 (.string (st K)))
      clear hcs hc0 hf0 H5 H6
      generalize w6.setCell ⟨x0, 0, none⟩ (.string (st K)) = w7 at *
      have hby2 := bytes_any (most := 1048576) H7.out.rd HL1.out (by omega)
      obtain ⟨V, hV⟩ : ∃ V, V = byB l1 e1 1048576 := ⟨_, rfl⟩
      obtain ⟨l3, hl3⟩ : ∃ l3, l3 = byL l1 e1 1048576 := ⟨_, rfl⟩
      obtain ⟨e3, he3⟩ : ∃ e3, e3 = byE l1 e1 1048576 := ⟨_, rfl⟩
      rw [← hV, ← hl3, ← he3] at hby2
      have HEQ2 := Lib.hid (And.intro hV (And.intro hl3 he3))
      clear hV hl3 he3
      go_upto_region 11 with (go_at_call 38; refine hby2.mono ?_; clear hby2; rintro _ wa ⟨Ax, nx, cx, rfl, hya, hra, hga, _⟩; obtain rfl : nx = V.length := hya.len.symm; have Ha := Lib.hid (And.intro (H7.out.call HS2.out HX.out.1.symm hga hra) hya); have hc1 := cell_of_cells Ha.out.1.row 1; have hf1 := free_of_cells Ha.out.1.row 1; clear hya hra hga)
      have HT := Lib.hid (Ha.out.1.store (fun h => by have := HX.out.2.1; omega) (fun h => by omega) HX.out.2.1 1 (.slice Ax V.length cx))
      have hs9 := lt_of_cells H7.out.row
      have HYV := Lib.hid (((Ha.out.2.mono (T := fun k => x0 < k) fun k _ h => by have h' : w7.heap.size ≤ k := h; omega)).turned (T := fun k => k = x0) ((Turned.refl (fun k => k = x0) wa).set rfl 1 (.slice Ax V.length cx)) fun k _ h e => by omega)
      clear hc1 hf1 Ha hs9 H7
      generalize wa.setCell ⟨x0, 1, none⟩ (.slice Ax V.length cx) = wx at *
      have HROW : Hid (wx.heap[x0]? = some (.cells #[.string (st K), .slice Ax V.length cx] 50 (0, 0))) := Lib.hid HT.out.row
      have her := err_rd HT.out.rd
      by_cases he3 : e3 = 0
      · subst he3
        have hb11 : Below wx.heap.size wx (wx.alloc (.cells #[.string (st K), .slice Ax V.length cx] 50)) := (Below.refl _ _).alloc (Nat.le_refl _) _
        obtain ⟨X, hX⟩ : ∃ X : Fi, X = (K, V) := ⟨_, rfl⟩
        have hXV : X.2 = V := by rw [hX]
        have hx10 := lt_of_cells HROW.out
        obtain ⟨A12, c12, w12, hap, hg12, ht12⟩ := (HT.out.gc.below hb11).push (q := wx.heap.size) (k := 1) (A := Ax) (n := V.length) (c := cx) (x := X) (fun j u hu => by rw [cell_of_cells (heap_alloc_new wx _)]; rw [hX] at hu; exact hu) (by rw [hXV]; exact HYV.out.below hb11) (fun k _ h1 h2 => by omega) (by have h1 := HL.out.2.1; have h2 := HM.out; have h3 := HL.out.2.2.2.2; omega) 22
        have H12 := Lib.hid (And.intro hg12 (And.intro ht12 hX))
        have HB11 := Lib.hid hb11
        have HX10 := Lib.hid hx10
        clear hb11 hg12 ht12 hx10 hX hXV
        go_wp2_with (first
          | (go_at_call 39; refine her.mono ?_; clear her; rintro _ _ ⟨rfl, rfl⟩)
          | (refine wpList_load_row (by rfl) 50 (.tmp 7) (by rfl) x0 (by rfl) 50 #[.string (st K), .slice Ax V.length cx] (0, 0) _ HROW.out Tryd.underlying50 (by rfl) fi_info ?_)
          | (at_builtin; refine wpList_app (by rfl) (.tmp 31) (.tmp 33) 22 (by rfl) (by rfl) (by rfl) hap ?_))
        go_roundw
        case rel =>
          unfold FgR
          have hpl := HX.out.2.1
          have e0 : byE l1 e1 1048576 = 0 := HEQ2.out.2.2.symm
          obtain ⟨t1, t2⟩ := by_take l1 e1 1048576 (.inr e0)
          rw [← HEQ2.out.1, ← HEQ2.out.2.1] at t2
          have e4 : byE l e 255 = 0 := by rw [← HEQ.out.2.2]; exact t1
          obtain ⟨_, t3⟩ := by_take l e 255 (.inr e4)
          rw [← HEQ.out.1, ← HEQ.out.2.1] at t3
          refine ⟨j + 1, acc ++ [X], l3, 0, by simp, by have := HL.out.2.1; omega, ?_, ?_, ?_, ?_, ?_, ?_, ?_⟩
          · have h1 := HL.out.1
            rw [show M - j = (M - (j + 1)) + 1 by have := HL.out.2.1; omega, fgGo, ← HEQ.out.1, ← HEQ.out.2.1, ← HEQ.out.2.2, if_neg (by simp [e0]), ← HEQ2.out.1, ← HEQ2.out.2.1, e0] at h1
            rw [h1, H12.out.2.2]
          · exact (HT.out.rd.turned (T := fun _ => False) (Turned.of_below HB11.out) fun _ _ _ h => h).turned H12.out.2.1 fun k _ h1 h2 => by omega
          · refine H12.out.1.mono fun k hk h => ?_
            have h1 := HT.out.tn.size
            have h2 := HB11.out.size
            rcases h with h | h | h
            · exact h.1
            · omega
            · omega
          · exact (HT.out.tn.trans (Turned.of_below (S := fun k => k = p) HB11.out) fun _ _ h => h).trans H12.out.2.1 fun k hk h => by omega
          · rw [List.length_append, List.length_singleton]
            have := HL.out.2.2.1
            omega
          · intro x hx
            rcases List.mem_append.1 hx with hx | hx
            · exact HL.out.2.2.2.1 x hx
            · simp only [List.mem_singleton] at hx
              rw [hx, H12.out.2.2, HEQ.out.1]
              exact by_few l e 255
          · rw [List.length_append, List.length_singleton, HL.out.2.2.2.2]
        case measure => have := HL.out.2.1; simp only [intOf]; omega
      · have hne : (e3 != 0) = true := by simpa using he3
        have HE3 := Lib.hid he3
        clear he3
        go_wp2_with (go_at_call 39; refine her.mono ?_; clear her; rintro _ _ ⟨rfl, rfl⟩)
        go_ret2
        refine fgPost_nil (E := e3) ?_ (HB1.out.1.trans ((HT.out.tn.mono (T := (w.heap.size ≤ ·)) fun k _ e => by rw [show k = p from e]; exact HB1.out.2.1).below HB1.out.1.size))
        rw [HR.out, HL.out.1, show M - j = (M - (j + 1)) + 1 by have := HL.out.2.1; omega, fgGo, ← HEQ.out.2.1, ← HEQ.out.2.2, ← HEQ2.out.2.2, if_pos HE3.out, fgEnd]
        simp only
        rw [if_pos (by unfold endE; rw [if_pos HE3.out]; exact HE3.out)]
        unfold endE
        rw [if_pos HE3.out]
    · have hjM : M - j = 0 := by omega
      rw [hjM, fgGo] at hgo
      have hlt' : ¬ (j : Int) < (M : Int) := by omega
      have hend := end_rd hr
      obtain ⟨A5, c5, rfl, hfl⟩ := hg.slice
      have hfl := hfl.mono (T := (w.heap.size ≤ ·)) fun k _ h => Nat.le_trans HB1.out.1.size h
      have hbw : Below w.heap.size w wr := HB1.out.1.trans ((ht.mono (T := (w.heap.size ≤ ·)) fun k _ e => by rw [show k = p from e]; exact HB1.out.2.1).below HB1.out.1.size)
      have hck := check_files hfl (by have := HM.out; omega) (fun x hx => by have := hac x hx; unfold maxLen; omega)
      have HK := Lib.hid (And.intro hfl (And.intro hbw (HR.out.trans (by rw [hgo]))))
      obtain ⟨E, hE⟩ : ∃ E, E = endE l e := ⟨_, rfl⟩
      rw [← hE] at hend
      have HE := Lib.hid hE
      clear hlt hjM hgo hr hg ht hl hac hfl hbw hE haj hj
      by_cases h0 : E = 0
      · subst h0
        obtain ⟨C, hC⟩ : ∃ C, C = chkE acc := ⟨_, rfl⟩
        rw [← hC] at hck
        have HC := Lib.hid hC
        clear hC
        by_cases h1 : C = 0
        · subst h1
          go_wp2_with (first
            | (go_at_call 40; refine hend.mono ?_; clear hend; rintro _ _ ⟨rfl, rfl⟩)
            | (go_at_call 16; refine hck.mono ?_; clear hck; rintro _ w9 ⟨rfl, hb9⟩))
          go_ret2
          have hres : getF b = (acc, 0) := by
            rw [HK.out.2.2, fgEnd]
            simp only
            rw [if_neg (by rw [← HE.out]; simp), if_neg (by rw [← HC.out]; simp)]
          rw [hres]
          exact ⟨A5, c5, rfl, HK.out.1.below hb9, HK.out.2.1.trans (hb9.mono HK.out.2.1.size)⟩
        · have hne : (C != 0) = true := by simpa using h1
          have H1 := Lib.hid h1
          clear h1
          go_wp2_with (first
            | (go_at_call 40; refine hend.mono ?_; clear hend; rintro _ _ ⟨rfl, rfl⟩)
            | (go_at_call 16; refine hck.mono ?_; clear hck; rintro _ w9 ⟨rfl, hb9⟩))
          go_ret2
          refine fgPost_nil ?_ (HK.out.2.1.trans (hb9.mono HK.out.2.1.size))
          rw [HK.out.2.2, fgEnd]
          simp only
          rw [if_neg (by rw [← HE.out]; simp), if_pos (by rw [← HC.out]; exact H1.out)]
      · have hne : (E != 0) = true := by simpa using h0
        have H0 := Lib.hid h0
        clear h0 hck
        go_wp2_with (go_at_call 40; refine hend.mono ?_; clear hend; rintro _ _ ⟨rfl, rfl⟩)
        go_ret2
        refine fgPost_nil (E := E) ?_ HK.out.2.1
        rw [HK.out.2.2, fgEnd]
        simp only
        rw [if_pos (by rw [← HE.out]; exact H0.out), ← HE.out]
end Go.Proofs.YtpcoiakdbfihlaaDoor

/-! Files: strings.Compare's order, the first of rising paths that is not below a text. -/
namespace Go.Proofs.YtpcoiakdbfihlaaDoor
open Go.RowKit Codec

theorem cmp_neg : ∀ (a b : List UInt8), (Lib.compareBytes a b < 0 ↔ a < b) ∧ (Lib.compareBytes a b = 0 ↔ a = b) ∧ -1 ≤ Lib.compareBytes a b ∧ Lib.compareBytes a b ≤ 1
  | [], [] => by simp [Lib.compareBytes]
  | [], b :: bs => by simp [Lib.compareBytes]
  | a :: u, [] => by simp [Lib.compareBytes]
  | a :: u, b :: bs => by
    obtain ⟨h1, h2, h3, h4⟩ := cmp_neg u bs
    unfold Lib.compareBytes
    rw [List.cons_lt_cons_iff, List.cons.injEq]
    by_cases hab : a < b
    · have : a ≠ b := fun e => by rw [e] at hab; exact absurd hab (UInt8.lt_irrefl b)
      simp [hab, this]
    · by_cases hba : b < a
      · have : a ≠ b := fun e => by rw [e] at hba; exact absurd hba (UInt8.lt_irrefl b)
        simp [hab, hba, this]
      · have : a = b := UInt8.le_antisymm (UInt8.not_lt.1 hba) (UInt8.not_lt.1 hab)
        subst this
        simp [h1, h2, h3, h4]
set_option maxHeartbeats 4000000 in
set_option maxRecDepth 100000 in
theorem beg1_any (w : World) (x : Fi) (A : Option Addr) (n c : Nat) (s : List UInt8) :
    Calls Tryd.prog 57 #[.agg (fiV A n c x), .string (st s)] w fun e w' => e = .returned (.int .i64 (Lib.compareBytes x.1 s)) ∧ Below w.heap.size w w' := by
  obtain ⟨XA, hXA⟩ : ∃ XA, XA = fiV A n c x := ⟨_, rfl⟩
  have hc := compare_any (st x.1) (st s) (w.alloc (.cells XA 50))
  rw [st_data, st_data] at hc
  obtain ⟨P, hP⟩ : ∃ P, P = x.1 := ⟨_, rfl⟩
  have hx0 : (w.alloc (.cells XA 50)).cell? ⟨w.heap.size, 0, none⟩ = some (.string (st P)) := by rw [cell_of_cells (heap_alloc_new w _), hXA, hP]; rfl
  obtain ⟨Z, hZ⟩ : ∃ Z, Z = Lib.compareBytes x.1 s := ⟨_, rfl⟩
  rw [← hZ, ← hP] at hc
  rw [← hXA, ← hZ]
  have HB := Lib.hid (show Below w.heap.size w (w.alloc (.cells XA 50)) from (Below.refl _ w).alloc (Nat.le_refl _) _)
  clear hXA hP hZ
  go_enter Tryd.func57, Tryd.ntmps57
  go_wp2_with (go_at_call 58; refine hc.mono ?_; clear hc; rintro _ _ ⟨rfl, rfl⟩)
  go_ret
  exact ⟨rfl, HB.out⟩
theorem wpList_load_at_on {P : Program} {ops : Array Oper} {rest : List Oper} {o : Oper} {a : Act} {w : World} {Q : Exit → Act → World → Prop} (hw : Region.wanted o (yielded ops a.tmps) = true) (ty : TypeId) (x : Operand) (ho : o.op = .load ty x) (ad : Addr) (hx : a.eval x = .pointer (some ad)) (cs : Array Value) (d : TypeDesc)
    (hc : ∀ (j : Nat) (v : Value), cs[j]? = some v → w.cell? (ad.add j) = some v) (hu : P.underlying ty = some d) (hd : (match d with | .struct _ | .array _ _ => true | _ => false) = true) (hi : (P.info? ty).map (·.size) = some cs.size)
    (h : wpList P ops Q rest (a.put o.dst (.agg cs)) w) : wpList P ops Q (o :: rest) a w := by
  unfold wpList
  rw [if_pos hw]
  refine .inl ?_
  unfold Oper.wp execOp
  simp only [ho, hx, Instr.loadAt, Instr.sureAddr, Sem.run_bind, Sem.run_pure, Result.andThen_ok, run_loadVar_at w ad ty cs d hc hu hd hi]
  exact h
/-- PATHS RISE. -/
def Ris (l : Tb) : Prop := ∀ (i k : Nat) (x y : Fi), i < k → l[i]? = some x → l[k]? = some y → x.1 < y.1
/-- While it is searched. -/
def BsR (w : World) (l : Tb) (s : List UInt8) (i j : Value) (wr : World) : Prop :=
  ∃ a b : Nat, i = .int .i64 (a : Int) ∧ j = .int .i64 (b : Int) ∧ a ≤ b ∧ b ≤ l.length ∧ (∀ k x, k < a → l[k]? = some x → x.1 < s) ∧ (∀ k x, b ≤ k → l[k]? = some x → ¬ x.1 < s) ∧ Below w.heap.size w wr
def BsPost (w : World) (l : Tb) (s : List UInt8) (e : Ending) (w' : World) : Prop :=
  ∃ (a : Nat) (z : Bool), e = .returned (.tuple #[.int .i64 (a : Int), .bool z]) ∧ a ≤ l.length ∧ (∀ k x, k < a → l[k]? = some x → x.1 < s) ∧ (∀ k x, a ≤ k → l[k]? = some x → ¬ x.1 < s) ∧ Below w.heap.size w w'
set_option maxHeartbeats 8000000 in
set_option maxRecDepth 100000 in
theorem bsearch_any {w : World} {S : Nat → Prop} {A : Option Addr} {n c : Nat} {l : Tb} (hl : Fls w S A n c l) (hn : n ≤ 100000000) (hr : Ris l) (s : List UInt8) :
    Calls Tryd.prog 56 #[.slice A n c, .string (st s), .func (.func 57) #[] #[]] w fun e w' => BsPost w l s e w' := by
  have HL := Lib.hid (And.intro hl (And.intro hl.len hr))
  have H0 : Hid (BsR w l s (.int .i64 0) (.int .i64 (n : Int)) w) := Lib.hid ⟨0, n, rfl, rfl, Nat.zero_le _, by rw [hl.len]; exact Nat.le_refl _, fun k x h => absurd h (Nat.not_lt_zero _), fun k x h h2 => by have := (List.getElem?_eq_some_iff.1 h2).1; rw [hl.len] at this; omega, Below.refl _ _⟩
  clear hl hr
  go_enter Tryd.func56, Tryd.ntmps56
  go_wp2_with fail
  go_loopw [9, 10] (fun i j wr => BsR w l s i j wr) (fun i j _ => (intOf j).toNat - (intOf i).toNat)
  case atStart => exact H0.out
  case round =>
    obtain ⟨a, b, rfl, rfl, hab, hbn, hlo, hhi, hb⟩ := hrel
    clear H0
    have HK := Lib.hid (And.intro hlo (And.intro hhi (And.intro hb (And.intro hab hbn))))
    clear hlo hhi hb
    by_cases hlt : a < b
    · have hlt' : (a : Int) < (b : Int) := by omega
      have hln := HL.out.2.1
      have hadd := IntWalk.i64_in ((a : Int) + (b : Int)) (by omega)
      go_upto_region 5 with fail
      obtain ⟨H, hH⟩ : ∃ H : Nat, H = (a + b) / 2 := ⟨_, rfl⟩
      rw [show ((a : Int) + (b : Int)) / 2 = (H : Int) by omega]
      obtain ⟨q, off, x, Ai, ni, ci, rfl, _, hqlt, hx, hcs, _⟩ := HL.out.1.at_ (show H < n by omega)
      obtain ⟨CV, hCV⟩ : ∃ CV, CV = fiV Ai ni ci x := ⟨_, rfl⟩
      rw [← hCV] at hcs
      have hcw : ∀ (i : Nat) (v : Value), CV[i]? = some v → wr.cell? ((⟨q, off + H * 2, none⟩ : Addr).add i) = some v := fun i v hv => by
        have h1 := hcs i v hv
        rw [add_plain] at h1 ⊢
        exact (HK.out.2.2.1.cell (p := ⟨_, _, none⟩) hqlt).trans h1
      have hbg := beg1_any wr x Ai ni ci s
      rw [← hCV] at hbg
      obtain ⟨h1, h2, h3, h4⟩ := cmp_neg x.1 s
      obtain ⟨Z, hZ⟩ : ∃ Z, Z = Lib.compareBytes x.1 s := ⟨_, rfl⟩
      rw [← hZ] at hbg h1
      have hH1 : a ≤ H := by omega
      have hH2 : H < b := by omega
      have hHn : (H : Int) < (n : Int) := by omega
      have hadd1 := IntWalk.i64_in ((H : Int) + 1) (by omega)
      have HCV := Lib.hid (And.intro hCV (And.intro hcw (And.intro hx (And.intro hH1 (And.intro hH2 h1)))))
      clear hCV hcw hcs hx hqlt h1 h2 h3 h4 hZ hH hlt hab hbn hH1 hH2 hln hadd
      by_cases hz : Z < 0
      · have HZ := Lib.hid (HCV.out.2.2.2.2.2.1 hz)
        go_wp2_with (first
          | (refine wpList_load_at (by rfl) 50 (.tmp 27) (by rfl) ⟨q, off + H * 2, none⟩ (by rfl) CV _ HCV.out.2.1 Tryd.underlying50 (by rfl) (by rw [HCV.out.1]; exact fi_info) ?_)
          | (go_at_call 57; refine hbg.mono ?_; clear hbg; rintro _ w2 ⟨rfl, hb2⟩))
        go_roundw
        case rel =>
          refine ⟨H + 1, b, by simp, rfl, by have := HCV.out.2.2.2.2.1; omega, HK.out.2.2.2.2, fun k y hk hy => ?_, HK.out.2.1, HK.out.2.2.1.trans (hb2.mono HK.out.2.2.1.size)⟩
          by_cases e : k = H
          · subst e
            rw [HCV.out.2.2.1] at hy
            rw [← Option.some.inj hy]
            exact HZ.out
          · exact klt_tr (HL.out.2.2 k H y x (by omega) hy HCV.out.2.2.1) HZ.out
        case measure => simp only [intOf]; have h1 := HCV.out.2.2.2.1; have h2 := HCV.out.2.2.2.2.1; omega
      · have HZ := Lib.hid (show ¬ x.1 < s from fun h => hz (HCV.out.2.2.2.2.2.2 h))
        go_wp2_with (first
          | (refine wpList_load_at (by rfl) 50 (.tmp 27) (by rfl) ⟨q, off + H * 2, none⟩ (by rfl) CV _ HCV.out.2.1 Tryd.underlying50 (by rfl) (by rw [HCV.out.1]; exact fi_info) ?_)
          | (go_at_call 57; refine hbg.mono ?_; clear hbg; rintro _ w2 ⟨rfl, hb2⟩))
        go_roundw
        case rel =>
          refine ⟨a, H, rfl, rfl, HCV.out.2.2.2.1, by have h1 := HCV.out.2.2.2.2.1; have h2 := HK.out.2.2.2.2; omega, HK.out.1, fun k y hk hy => ?_, HK.out.2.2.1.trans (hb2.mono HK.out.2.2.1.size)⟩
          by_cases e : k = H
          · subst e
            rw [HCV.out.2.2.1] at hy
            rw [← Option.some.inj hy]
            exact HZ.out
          · exact fun h => HZ.out (klt_tr (HL.out.2.2 H k x y (by omega) HCV.out.2.2.1 hy) h)
        case measure => simp only [intOf]; have h1 := HCV.out.2.2.2.1; have h2 := HCV.out.2.2.2.2.1; omega
    · obtain rfl : a = b := by omega
      have hlt' : ¬ (a : Int) < (a : Int) := by omega
      clear hlt
      by_cases han : a < n
      · have han' : (a : Int) < (n : Int) := by omega
        obtain ⟨q, off, x, Ai, ni, ci, rfl, _, hqlt, hx, hcs, _⟩ := HL.out.1.at_ han
        obtain ⟨CV, hCV⟩ : ∃ CV, CV = fiV Ai ni ci x := ⟨_, rfl⟩
        rw [← hCV] at hcs
        have hcw : ∀ (i : Nat) (v : Value), CV[i]? = some v → wr.cell? ((⟨q, off + a * 2, none⟩ : Addr).add i) = some v := fun i v hv => by
          have h1 := hcs i v hv
          rw [add_plain] at h1 ⊢
          exact (HK.out.2.2.1.cell (p := ⟨_, _, none⟩) hqlt).trans h1
        have hbg := beg1_any wr x Ai ni ci s
        rw [← hCV] at hbg
        obtain ⟨Z, hZ⟩ : ∃ Z, Z = Lib.compareBytes x.1 s := ⟨_, rfl⟩
        rw [← hZ] at hbg
        have HCV := Lib.hid (And.intro hCV hcw)
        clear hCV hcw hcs hx hqlt hZ hab hbn han
        go_wp2_with (first
          | (refine wpList_load_at_on (by rfl) 50 (.tmp 43) (by rfl) ⟨q, off + a * 2, none⟩ (by rfl) CV _ HCV.out.2 Tryd.underlying50 (by rfl) (by rw [HCV.out.1]; exact fi_info) ?_)
          | (go_at_call 57; refine hbg.mono ?_; clear hbg; rintro _ w2 ⟨rfl, hb2⟩))
        go_ret2
        exact ⟨a, _, rfl, HK.out.2.2.2.2, HK.out.1, HK.out.2.1, HK.out.2.2.1.trans (hb2.mono HK.out.2.2.1.size)⟩
      · have han' : ¬ (a : Int) < (n : Int) := by omega
        clear han hab hbn
        go_wp2_with fail
        go_ret2
        exact ⟨a, _, rfl, HK.out.2.2.2.2, HK.out.1, HK.out.2.1, HK.out.2.2.1⟩
end Go.Proofs.YtpcoiakdbfihlaaDoor

/-! codec.Writer, its further methods. -/
namespace Go.Proofs.YtpcoiakdbfihlaaDoor
open Go.RowKit Codec

theorem or128_all : ∀ a, a < 256 → a ||| 128 = a % 128 + 128 := by decide +kernel
theorem byte_more (x : Nat) : bits .or .u8 (IntKind.u8.wrap (x : Int)) 128 = ((UInt8.ofNat (x % 128 + 128)).toNat : Int) := by
  have e : IntKind.u8.wrap (x : Int) = ((x % 256 : Nat) : Int) := by simp [IntKind.wrap, IntKind.signed, IntKind.bits]
  rw [e, show (128 : Int) = ((128 : Nat) : Int) from rfl, u8_or_nat _ _ (by omega) (by omega), or128_all _ (by omega)]
  have : (UInt8.ofNat (x % 128 + 128)).toNat = x % 128 + 128 := by simp; omega
  rw [this]
  omega
theorem byte_last (x : Nat) : IntKind.u8.wrap (x : Int) = ((UInt8.ofNat x).toNat : Int) := by
  have e : IntKind.u8.wrap (x : Int) = ((x % 256 : Nat) : Int) := by simp [IntKind.wrap, IntKind.signed, IntKind.bits]
  rw [e]
  simp


set_option maxHeartbeats 1000000 in
set_option maxRecDepth 100000 in
theorem wuint {w : World} {S : Nat → Prop} {p : Nat} {l : List UInt8} {x : Nat} (h : Wr w S p l) (hx : x < 18446744073709551616) (hb : l.length + 10 ≤ 140737488355328) :
    Calls Tryd.prog 25 #[.pointer (some ⟨p, 0, none⟩), .int .u64 x] w (Put w S p (l ++ put x)) := by
  obtain ⟨i0, hi, hz0, hz1, hz2⟩ := info_parts u8_info
  go_enter Tryd.func25, Tryd.ntmps25
  go_wp2
  go_loopw [1] (fun s1 wr => ∃ (y : Nat) (d : List UInt8), y < 18446744073709551616 ∧ s1 = .int .u64 y ∧ Hid (l ++ put x = d ++ put y) ∧ Wr wr (fun b => S b ∨ w.heap.size ≤ b) p d ∧ Turned S w wr) (fun s1 _ => (intOf s1).toNat)
  case atStart => exact ⟨x, l, hx, rfl, rfl, h.mono fun _ _ hs => .inl hs, Turned.refl _ _⟩
  case round =>
    obtain ⟨y, d, hy, rfl, HD, hW, hT⟩ := hrel
    obtain ⟨hp, A0, c0, hh, ho, hs⟩ := hW
    have h0 := cell_of_cells hh 0
    simp only [List.getElem?_toArray, List.getElem?_cons_zero] at h0
    have f0 := free_of_cells hh 0
    have hdl : d.length + 1 ≤ l.length + 10 := by
      have e := congrArg List.length HD.out
      have := put_length_64 hx
      have := put_length_pos y
      simp at e
      omega
    have HH := Lib.hid hh
    have HO := Lib.hid ho
    clear hh ho
    have hq4 : d.length + 1 ≤ maxLen := by unfold maxLen; omega
    have hq5 : (d.length + 1) * 1 ≤ 140737488355328 := by omega
    by_cases hlt : y < 128
    · have hge : ¬ 128 ≤ y := by omega
      have hput := put_small hlt
      have HP := Lib.hid hput
      have hone : [Value.int .u8 (y : Int)] = u8s [UInt8.ofNat y] := by simp [u8s, Nat.mod_eq_of_lt (show y < 256 by omega)]
      have HV := Lib.hid hone
      clear hput hone
      go_wp2_with (at_builtin; refine wpList_append_own_at _ rfl _ _ 27 rfl 0 5 i0 (.int .u8 0) 1 1 Tryd.underlying27 hi hz0 hz1 hz2 rfl (by decide) _ d.length (u8s d) rfl (HO.out.alloc _) ⟨wr.heap.size, 0, none⟩ 1 1 [.int .u8 (y : Int)] rfl rfl (cell_one_new _ _ _) (one_of rfl) hq4 hq5 (Nat.zero_le _) ?_)
      intro v' w1 hown hgrow hnn hat
      rw [HV.out] at hown
      obtain ⟨A', c', rfl, _⟩ := own_byt (l := d ++ [UInt8.ofNat y]) (by rw [u8s_append]; exact hown)
      obtain ⟨g1, g2, g3⟩ := Wr.app (S := fun b => S b ∨ w.heap.size ≤ b) hp HH.out HO.out hs ((Below.refl _ _).alloc (Nat.le_refl _) _) hown rfl hgrow (hat.imp_right fun e => e.trans (by simp))
      have fin : Put w S p (l ++ put x) (.returned (.tuple #[])) (w1.setCell ⟨p, 0, none⟩ (.slice A' (d.length + 1) c')) := by
        rw [HD.out, HP.out]
        refine ⟨rfl, g3.out.1.mono fun b _ hs => ?_, hT.trans g3.out.2 fun i hi hs => ?_⟩
        · rcases hs with hs | hs
          · exact hs
          · exact .inr (Nat.le_trans hT.size hs)
        · rcases hs with hs | hs
          · exact hs
          · omega
      have HF := Lib.hid fin
      clear hown hgrow hnn hat h0 f0 fin
      go_wp2
      go_end0
      exact HF.out
    · have hone : [Value.int .u8 (bits .or .u8 (IntKind.u8.wrap (y : Int)) 128)] = u8s [UInt8.ofNat (y % 128 + 128)] := by rw [byte_more]; rfl
      have HV := Lib.hid hone
      have hput := put_big (x := y) (by omega)
      have HP := Lib.hid hput
      clear hput hone
      go_wp2_with (at_builtin; refine wpList_append_own_at _ rfl _ _ 27 rfl 0 5 i0 (.int .u8 0) 1 1 Tryd.underlying27 hi hz0 hz1 hz2 rfl (by decide) _ d.length (u8s d) rfl (HO.out.alloc _) ⟨wr.heap.size, 0, none⟩ 1 1 [.int .u8 (bits .or .u8 (IntKind.u8.wrap (y : Int)) 128)] rfl rfl (cell_one_new _ _ _) (one_of rfl) hq4 hq5 (Nat.zero_le _) ?_)
      intro v' w1 hown hgrow hnn hat
      rw [HV.out] at hown
      obtain ⟨A', c', rfl, _⟩ := own_byt (l := d ++ [UInt8.ofNat (y % 128 + 128)]) (by rw [u8s_append]; exact hown)
      obtain ⟨g1, g2, g3⟩ := Wr.app (S := fun b => S b ∨ w.heap.size ≤ b) hp HH.out HO.out hs ((Below.refl _ _).alloc (Nat.le_refl _) _) hown rfl hgrow (hat.imp_right fun e => e.trans (by simp))
      clear hown hgrow hnn hat h0 f0
      go_wp2
      go_roundw
      case rel =>
        refine ⟨y / 128, d ++ [UInt8.ofNat (y % 128 + 128)], by omega, ?_, ?_, g3.out.1.mono fun b _ hs => ?_, hT.trans g3.out.2 fun i hi hs => ?_⟩
        · go_num
        · show l ++ put x = _
          rw [HD.out, HP.out]; simp
        · rcases hs with hs | hs
          · exact hs
          · exact .inr (Nat.le_trans hT.size hs)
        · rcases hs with hs | hs
          · exact hs
          · omega
      case measure => simp [intOf]; omega
end Go.Proofs.YtpcoiakdbfihlaaDoor

/-! codec.Writer: Bytes, Bool, Out, NewWriter; a Writer and a Reader that are none. -/
namespace Go.Proofs.YtpcoiakdbfihlaaDoor
open Go.RowKit Codec

theorem Put.join {w w1 w2 : World} {S : Nat → Prop} {p : Nat} {l m : List UInt8} {e1 e2 : Ending} (h1 : Put w S p l e1 w1) (h2 : Put w1 (fun b => S b ∨ w.heap.size ≤ b) p m e2 w2) : Put w S p m (.returned (.tuple #[])) w2 :=
  ⟨rfl, h2.2.1.mono fun _ _ hs => by
    rcases hs with hs | hs
    · exact hs
    · exact .inr (Nat.le_trans h1.2.2.size hs),
   h1.2.2.trans h2.2.2 fun i hi hs => by
    rcases hs with hs | hs
    · exact hs
    · omega⟩
/-- Where all from B on is the writer's own. -/
theorem Put.from {w w' : World} {B p : Nat} {l : List UInt8} {e : Ending} (h : Put w (B ≤ ·) p l e w') (hB : B ≤ w.heap.size) : Wr w' (B ≤ ·) p l ∧ Below B w w' :=
  ⟨h.2.1.mono fun _ _ hs => by rcases hs with hs | hs <;> omega, h.2.2.below hB⟩

set_option maxHeartbeats 1000000 in
theorem wbytes {w : World} {S T : Nat → Prop} {p : Nat} {l m : List UInt8} {A : Option Addr} {n c : Nat} (h : Wr w S p l) (hm : Byt w T A n c m) (hd : ∀ b, b < w.heap.size → T b → ¬ S b) (hb : l.length + 10 + n ≤ 140737488355328) :
    Calls Tryd.prog 26 #[.pointer (some ⟨p, 0, none⟩), .slice A n c] w (Put w S p (l ++ (put m.length ++ m))) := by
  have hn : n < 18446744073709551616 := by omega
  have hml := hm.len
  have hput := put_length_64 (x := n) (by omega)
  have hu := wuint (x := n) h hn (by omega)
  have HB := Lib.hid hb
  have HM := Lib.hid hml
  clear hml
  go_enter Tryd.func26, Tryd.ntmps26
  go_wp2_with fail
  refine hu.mono ?_
  rintro _ w1 ⟨rfl, h1⟩
  go_wp2_with fail
  refine (wfixed h1.1 (hm.turned h1.2 hd) (by have := HB.out; simp; omega)).mono ?_
  rintro _ w2 ⟨rfl, h2⟩
  go_wp2
  go_end0
  have h3 := Put.join (e1 := .returned (.tuple #[])) (e2 := .returned (.tuple #[])) ⟨rfl, h1⟩ ⟨rfl, h2⟩
  rw [HM.out]
  rw [List.append_assoc] at h3
  exact h3


/-- What a writer holds, as bytes in its own row. -/
theorem wr_byt {w : World} {S : Nat → Prop} {p : Nat} {l : List UInt8} (h : Wr w S p l) : ∃ A c, w.cell? ⟨p, 0, none⟩ = some (.slice A l.length c) ∧ Byt w (fun _ => True) A l.length c l := by
  obtain ⟨_, A, c, hh, ho, _⟩ := h
  obtain ⟨A', c', hv, hb⟩ := own_byt ho
  injection hv with h1 _ h2
  subst h1 h2
  exact ⟨A, c, by rw [cell_of_cells hh 0]; rfl, hb.mono fun _ _ _ => trivial⟩

set_option maxHeartbeats 1000000 in
theorem wout {w : World} {S : Nat → Prop} {p : Nat} {l : List UInt8} (h : Wr w S p l) (hb : l.length ≤ 140737488355328) :
    Calls Tryd.prog 27 #[.pointer (some ⟨p, 0, none⟩)] w fun r w' => ∃ A c, r = .returned (.slice A l.length c) ∧ Byt w' (w.heap.size ≤ ·) A l.length c l ∧ Below w.heap.size w w' ∧ FreeRow w' A := by
  obtain ⟨A0, c0, h0, hY⟩ := wr_byt h
  go_enter Tryd.func27, Tryd.ntmps27
  go_wp2_with fail
  refine (clone_byt hY hb).mono ?_
  rintro _ w1 ⟨A, c, rfl, hY1, hb1, _, hF1⟩
  go_wp2
  go_ret
  exact ⟨A, c, rfl, hY1, hb1, hF1⟩

theorem newWriter (w : World) :
    Calls Tryd.prog 24 #[] w fun r w' => ∃ p, r = .returned (.pointer (some ⟨p, 0, none⟩)) ∧ Wr w' (w.heap.size ≤ ·) p [] ∧ Below w.heap.size w w' := by
  go_enter Tryd.func24, Tryd.ntmps24
  go_wp2
  go_ret
  exact ⟨w.heap.size, rfl, ⟨Nat.le_refl _, none, 0, heap_alloc_new w _, World.ownsRow_nil _ _ _ _, fun a h => by cases h⟩, (Below.refl _ _).alloc (Nat.le_refl _) _⟩

/-! None -/
theorem wuint_nil (w : World) (x : Int) : Calls Tryd.prog 25 #[.pointer none, .int .u64 x] w fun e w' => e = .returned (.tuple #[]) ∧ w = w' := by
  go_enter Tryd.func25, Tryd.ntmps25
  go_wp2
  refine bodyPost_ret (results_none rfl _ _ _) rfl ?_
  exact ⟨rfl, rfl⟩
theorem wfixed_nil (w : World) (A : Option Addr) (n c : Nat) : Calls Tryd.prog 50 #[.pointer none, .slice A n c] w fun e w' => e = .returned (.tuple #[]) ∧ w = w' := by
  go_enter Tryd.func50, Tryd.ntmps50
  go_wp2
  refine bodyPost_ret (results_none rfl _ _ _) rfl ?_
  exact ⟨rfl, rfl⟩
theorem wbytes_nil (w : World) (A : Option Addr) (n c : Nat) : Calls Tryd.prog 26 #[.pointer none, .slice A n c] w fun e w' => e = .returned (.tuple #[]) ∧ w = w' := by
  go_enter Tryd.func26, Tryd.ntmps26
  go_wp2_with fail
  refine (wuint_nil _ _).mono ?_
  rintro _ _ ⟨rfl, rfl⟩
  go_wp2_with fail
  refine (wfixed_nil _ _ _ _).mono ?_
  rintro _ _ ⟨rfl, rfl⟩
  go_wp2
  go_end0
  exact ⟨rfl, rfl⟩
theorem wout_nil (w : World) : Calls Tryd.prog 27 #[.pointer none] w fun r w' => r = .returned (.slice none 0 0) ∧ w = w' := by
  go_enter Tryd.func27, Tryd.ntmps27
  go_wp2
  go_ret
  exact ⟨rfl, rfl⟩

theorem uint_nil (w : World) : Calls Tryd.prog 37 #[.pointer none] w fun r w' => r = .returned (.int .u64 0) ∧ w = w' := by
  go_enter Tryd.func37, Tryd.ntmps37
  go_wp2_with (go_at_call 39; refine (err_nil _).mono ?_; rintro _ _ ⟨rfl, rfl⟩)
  go_ret
  exact ⟨rfl, rfl⟩
theorem take_nil (w : World) (k : Int) : Calls Tryd.prog 65 #[.pointer none, .int .i64 k] w fun r w' => r = .returned (.slice none 0 0) ∧ w = w' := by
  go_enter Tryd.func65, Tryd.ntmps65
  go_wp2_with (go_at_call 39; refine (err_nil _).mono ?_; rintro _ _ ⟨rfl, rfl⟩)
  go_ret
  exact ⟨rfl, rfl⟩
theorem fixed_nil (w : World) (k : Int) : Calls Tryd.prog 54 #[.pointer none, .int .i64 k] w fun r w' => r = .returned (.slice none 0 0) ∧ w = w' := by
  have hc := clone_nil
  go_enter Tryd.func54, Tryd.ntmps54
  go_wp2_with fail
  refine (take_nil _ _).mono ?_
  rintro _ _ ⟨rfl, rfl⟩
  go_wp2_with fail
  refine (hc _).mono ?_
  rintro _ _ ⟨rfl, rfl⟩
  go_wp2
  go_ret
  exact ⟨rfl, rfl⟩
theorem bytes_nil (w : World) (k : Int) : Calls Tryd.prog 38 #[.pointer none, .int .i64 k] w fun r w' => r = .returned (.slice none 0 0) ∧ w = w' := by
  go_enter Tryd.func38, Tryd.ntmps38
  go_wp2_with fail
  refine (uint_nil _).mono ?_
  rintro _ _ ⟨rfl, rfl⟩
  go_wp2_with fail
  refine (err_nil _).mono ?_
  rintro _ _ ⟨rfl, rfl⟩
  go_wp2
  go_ret
  exact ⟨rfl, rfl⟩
theorem end_nil (w : World) : Calls Tryd.prog 40 #[.pointer none] w fun r w' => r = .returned (.int .i64 1) ∧ w = w' := by
  go_enter Tryd.func40, Tryd.ntmps40
  go_wp2_with (go_at_call 39; refine (err_nil _).mono ?_; rintro _ _ ⟨rfl, rfl⟩)
  go_ret
  exact ⟨rfl, rfl⟩
end Go.Proofs.YtpcoiakdbfihlaaDoor
