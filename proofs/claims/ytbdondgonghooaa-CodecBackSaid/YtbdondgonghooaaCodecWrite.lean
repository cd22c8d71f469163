/-
  codec.Writer: what each of its methods does, told of a writer that holds a list of bytes ('Wr').
-/
import Derived.Test.YtbdondgonghooaaCodecRead2
import Derived.Maps.AppendAt
namespace Go.Proofs.Ytbdondgonghooaa
open Go.RowKit Codec

/-- THE STRUCT AT BLOCK p IS A WRITER that holds the bytes l; all its memory lies in blocks of S. -/
def Wr (w : World) (S : Nat → Prop) (p : Nat) (l : List UInt8) : Prop :=
  S p ∧ ∃ A c, w.heap[p]? = some (.cells #[.slice A l.length c] 74 (0, 0)) ∧ w.ownsRow 0 5 1 (.slice A l.length c) l.length (u8s l) ∧ ∀ a, A = some a → S a.block

section
variable {w w' : World} {S : Nat → Prop} {p : Nat} {l : List UInt8}
theorem Wr.lt (h : Wr w S p l) : p < w.heap.size := by
  obtain ⟨_, A, c, hh, _⟩ := h
  exact lt_of_cells hh
theorem own_lt {base : Nat} {e : TypeId} {size : Nat} {A : Option Addr} {n c : Nat} {xs : List Value} (h : w.ownsRow base e size (.slice A n c) n xs) : ∀ a, A = some a → a.block < w.heap.size := by
  rintro a rfl
  exact (h.lt a.block rfl).2
theorem Wr.mono {T : Nat → Prop} (h : Wr w S p l) (hS : ∀ b, b < w.heap.size → S b → T b) : Wr w T p l := by
  have hlt := h.lt
  obtain ⟨hp, A, c, hh, ho, hs⟩ := h
  exact ⟨hS _ hlt hp, A, c, hh, ho, fun a ha => hS _ (own_lt ho a ha) (hs a ha)⟩
/-- What a writer does not hold may turn. -/
theorem Wr.turned {T : Nat → Prop} (h : Wr w S p l) (ht : Turned T w w') (hd : ∀ b, b < w.heap.size → S b → ¬ T b) : Wr w' S p l := by
  have hlt := h.lt
  obtain ⟨hp, A, c, hh, ho, hs⟩ := h
  refine ⟨hp, A, c, (ht.block p hlt (hd p hlt hp)).trans hh, ?_, hs⟩
  obtain ⟨h1, h2⟩ := ho
  refine ⟨h1, ?_⟩
  rcases h2 with h2 | ⟨g, cap, cur, hv, hg, hhg, r⟩
  · exact .inl h2
  · have hgl := lt_of_cells hhg
    have hsg : S g := hs ⟨g, 0, none⟩ (by injection hv)
    exact .inr ⟨g, cap, cur, hv, hg, (ht.block g hgl (hd g hgl hsg)).trans hhg, r⟩
theorem Rd.turned {e : Int} {T : Nat → Prop} (h : Rd w S p l e) (ht : Turned T w w') (hd : ∀ b, b < w.heap.size → S b → ¬ T b) : Rd w' S p l e := by
  have hlt := h.lt
  obtain ⟨hB, A, n, c, hh, hy⟩ := h
  exact ⟨hB, A, n, c, (ht.block p hlt (hd p hlt hB)).trans hh, hy.turned ht hd⟩

/-- The store behind an append: the writer then. -/
theorem Wr.put_back {w1 : World} {l m : List UInt8} {A A' : Option Addr} {c c' n : Nat} (hp : S p) (hh : w.heap[p]? = some (.cells #[.slice A l.length c] 74 (0, 0))) (ho : w.ownsRow 0 5 1 (.slice A l.length c) l.length (u8s l)) (hs : ∀ a, A = some a → S a.block)
    (hsz : w.heap.size ≤ w'.heap.size) (hw : ∀ k, k < w.heap.size → w'.heap[k]? = w.heap[k]?)
    (ho1 : w1.ownsRow 0 5 1 (.slice A' n c') n (u8s l ++ u8s m)) (hn : n = l.length + m.length) (hg : w'.grownBy w1 (Value.slice A l.length c).ownBlock)
    (hat : (Value.slice A' n c').ownBlock = (Value.slice A l.length c).ownBlock ∨ (Value.slice A' n c').ownBlock = some w'.heap.size) :
    Wr (w1.setCell ⟨p, 0, none⟩ (.slice A' n c')) (fun b => S b ∨ w.heap.size ≤ b) p (l ++ m) := by
  have hplt := lt_of_cells hh
  have hne : ∀ g, (Value.slice A l.length c).ownBlock = some g → g ≠ p := by
    rintro g hg rfl
    rcases ho.2 with ⟨hv, _⟩ | ⟨g', cap, cur, hv, _, hhg, _⟩
    · rw [hv] at hg; simp [Value.ownBlock] at hg
    · rw [hv] at hg
      simp [Value.ownBlock] at hg
      subst hg
      rw [hh] at hhg
      injection hhg with hhg
      injection hhg with _ ht _
      exact absurd ht (by decide)
  have hp1 : w1.heap[p]? = some (.cells #[.slice A l.length c] 74 (0, 0)) :=
    (hg.block p (by omega) (fun e => hne p e.symm rfl)).trans ((hw p hplt).trans hh)
  have hlen : n = (l ++ m).length := by rw [hn, List.length_append]
  subst hlen
  rw [← u8s_append] at ho1
  have hne1 : ∀ g, (Value.slice A' (l ++ m).length c').ownBlock = some g → g ≠ p := by
    intro g hg1
    rcases hat with e | e
    · rw [e] at hg1; exact hne g hg1
    · rw [e] at hg1; injection hg1; omega
  refine ⟨.inl hp, A', c', by simpa using set_of_cells hp1 0 _, ?_, ?_⟩
  · obtain ⟨h1, h2⟩ := ho1
    refine ⟨h1, ?_⟩
    rcases h2 with h2 | ⟨g, cap, cur, hv, hgb, hhg, r⟩
    · exact .inl h2
    · have : g ≠ p := hne1 g (by rw [hv]; rfl)
      exact .inr ⟨g, cap, cur, hv, hgb, (Below.heap_setCell _ _ _ _ this).trans hhg, r⟩
  · rintro a rfl
    rcases hat with e | e
    · rcases A with _ | a0
      · simp [Value.ownBlock] at e
      · simp [Value.ownBlock] at e
        exact .inl (by rw [e]; exact hs a0 rfl)
    · simp [Value.ownBlock] at e
      exact .inr (by omega)
end

theorem own_wr {S : Nat → Prop} {A : Option Addr} {n c : Nat} (hs : ∀ a, A = some a → S a.block) : ∀ g, (Value.slice A n c).ownBlock = some g → S g := by
  intro g hg
  rcases A with _ | a
  · simp [Value.ownBlock] at hg
  · simp [Value.ownBlock] at hg
    rw [← hg]; exact hs a rfl

/-- What the walk is told behind an append to a writer's bytes. -/
theorem Wr.app {w wx w1 : World} {S : Nat → Prop} {p : Nat} {l m : List UInt8} {A A' : Option Addr} {c c' n : Nat} (hp : S p) (hh : w.heap[p]? = some (.cells #[.slice A l.length c] 74 (0, 0))) (ho : w.ownsRow 0 5 1 (.slice A l.length c) l.length (u8s l)) (hs : ∀ a, A = some a → S a.block)
    (hx : Below w.heap.size w wx) (ho1 : w1.ownsRow 0 5 1 (.slice A' n c') n (u8s l ++ u8s m)) (hn : n = l.length + m.length) (hg : wx.grownBy w1 (Value.slice A l.length c).ownBlock)
    (hat : (Value.slice A' n c').ownBlock = (Value.slice A l.length c).ownBlock ∨ (Value.slice A' n c').ownBlock = some wx.heap.size) :
    w1.cell? ⟨p, 0, none⟩ = some (.slice A l.length c) ∧ w1.frozen? ⟨p, 0, none⟩ = false ∧
      Hid (Wr (w1.setCell ⟨p, 0, none⟩ (.slice A' n c')) (fun b => S b ∨ w.heap.size ≤ b) p (l ++ m) ∧ Turned S w (w1.setCell ⟨p, 0, none⟩ (.slice A' n c'))) := by
  have hplt := lt_of_cells hh
  have hne : (Value.slice A l.length c).ownBlock ≠ some p := by
    intro hg
    rcases ho.2 with ⟨hv, _⟩ | ⟨g', cap, cur, hv, _, hhg, _⟩
    · rw [hv] at hg; simp [Value.ownBlock] at hg
    · rw [hv] at hg
      simp [Value.ownBlock] at hg
      subst hg
      rw [hh] at hhg
      injection hhg with hhg
      injection hhg with _ ht _
      exact absurd ht (by decide)
  have hp1 : w1.heap[p]? = some (.cells #[.slice A l.length c] 74 (0, 0)) :=
    (hg.block p (Nat.lt_of_lt_of_le hplt hx.size) (fun e => hne e.symm)).trans ((hx.block p hplt).trans hh)
  refine ⟨by rw [cell_of_cells hp1 0]; rfl, free_of_cells hp1 0, ?_⟩
  refine ⟨Wr.put_back hp hh ho hs hx.size (fun k hk => hx.block k hk) ho1 hn hg hat, ?_⟩
  exact ((Turned.of_below hx).trans (Turned.of_gr hg (own_wr hs)) fun _ _ h => h).set hp _ _

theorem run_append_zero {P : Program} (w : World) (t ty e : TypeId) (i : TypeInfo) (ht : P.underlying t = some (.slice e)) (hi : P.info? e = some i) (A : Option Addr) (n c k : Nat) (hn : n ≤ c) :
    (Builtin.append_ #[t, t] ty #[.slice A n c, .slice none 0 k]).run P w = .ok (.slice A n c) w := by
  rcases A with _ | a <;> simp [Builtin.append_, run_underlying ht, sizeOf, typeInfo, hi, Builtin.lenOf, Builtin.firstCells, hn, storeCells]

theorem wpList_append_zero {P : Program} {w : World} {ops : Array Oper} {rest : List Oper} {o : Oper} {a : Act} {Q : Exit → Act → World → Prop} (hgd : o.guard = none) (s x : Operand) (t : TypeId)
    (ho : o.op = .call { callee := .builtin .append, args := #[s, x], argTypes := #[t, t] })
    (e : TypeId) (i : TypeInfo) (ht : P.underlying t = some (.slice e)) (hi : P.info? e = some i) (A : Option Addr) (n c k : Nat) (hn : n ≤ c) (hs : a.eval s = .slice A n c) (hx : a.eval x = .slice none 0 k)
    (h : wpList P ops Q rest (a.put o.dst (.slice A n c)) w) : wpList P ops Q (o :: rest) a w :=
  wpList_plain hgd fun _ hK => by
    unfold Oper.wp execOp
    simp only [ho, resolve, invoke, builtin, Sem.run_bind, Sem.run_pure, Result.andThen_ok, List.map_toArray, List.map_cons, List.map_nil, hs, hx, run_append_zero w t o.type e i ht hi A n c k hn]
    exact hK _ _ h

theorem own_cap {w : World} {base : Nat} {e : TypeId} {size : Nat} {A : Option Addr} {n c : Nat} {xs : List Value} (h : w.ownsRow base e size (.slice A n c) n xs) : n ≤ c := by
  rcases h.2 with ⟨hv, rfl⟩ | ⟨g', cap, cur, hv, _, _, hn, _⟩
  · omega
  · injection hv with _ _ hc; omega

/-- The post of a writer's call. -/
def Put (w : World) (S : Nat → Prop) (p : Nat) (l : List UInt8) (e : Ending) (w' : World) : Prop := e = .returned (.tuple #[]) ∧ Wr w' (fun b => S b ∨ w.heap.size ≤ b) p l ∧ Turned S w w'

set_option maxHeartbeats 1000000 in
theorem wfixed {w : World} {S T : Nat → Prop} {p : Nat} {l m : List UInt8} {A : Option Addr} {n c : Nat} (h : Wr w S p l) (hm : Byt w T A n c m) (hb : l.length + n ≤ 140737488355328) :
    Calls Try.prog 30 #[.pointer (some ⟨p, 0, none⟩), .slice A n c] w (Put w S p (l ++ m)) := by
  obtain ⟨i0, hi, hz0, hz1, hz2⟩ := info_parts u8_info
  have hmax := hm.max
  have hcap := hm.cap
  have hmlen := hm.len
  have hW := Lib.hid h
  obtain ⟨hp, A0, c0, hh, ho, hs⟩ := h
  have h0 := cell_of_cells hh 0
  simp only [List.getElem?_toArray, List.getElem?_cons_zero] at h0
  have f0 := free_of_cells hh 0
  have hoc := own_cap ho
  have HH := Lib.hid hh
  have HO := Lib.hid ho
  have HL := Lib.hid hmlen
  rcases A with _ | ad
  · have hn0 : n = 0 := by
      rcases Nat.eq_zero_or_pos n with h0 | h0
      · exact h0
      · obtain ⟨_, _, hA, _⟩ := hm.row h0
        cases hA
    subst hn0
    obtain rfl : m = [] := List.eq_nil_of_length_eq_zero hmlen
    have fin : Put w S p (l ++ []) (.returned (.tuple #[])) (w.setCell ⟨p, 0, none⟩ (.slice A0 l.length c0)) := by
      rw [List.append_nil]
      refine ⟨rfl, ⟨.inl hp, A0, c0, by simpa using set_of_cells hh 0 (.slice A0 l.length c0), ?_, fun a ha => .inl (hs a ha)⟩, (Turned.refl _ _).set hp _ _⟩
      obtain ⟨h1, h2⟩ := ho
      refine ⟨h1, ?_⟩
      rcases h2 with h2 | ⟨g, cap, cur, hv, hgb, hhg, r⟩
      · exact .inl h2
      · have : g ≠ p := by
          rintro rfl
          rw [hh] at hhg
          injection hhg with hhg
          injection hhg with _ ht _
          exact absurd ht (by decide)
        exact .inr ⟨g, cap, cur, hv, hgb, (Below.heap_setCell _ _ _ _ this).trans hhg, r⟩
    clear hm hh ho hmlen
    go_enter Try.func30, Try.ntmps30
    go_wp2_with (at_builtin; refine wpList_append_zero (by rfl) _ _ 22 (by rfl) 5 i0 Try.underlying22 hi A0 l.length c0 c hoc (by rfl) (by rfl) ?_)
    go_end0
    exact fin
  · have hnews := byt_news hm
    have hlen := u8s_length m
    have hone := u8s_one m
    clear hm hh ho hmlen
    go_enter Try.func30, Try.ntmps30
    go_wp2_with (at_builtin; refine wpList_append_own_at _ rfl _ _ 22 rfl 0 5 i0 (.int .u8 0) 1 1 Try.underlying22 hi hz0 hz1 hz2 rfl (by decide) _ l.length (u8s l) rfl HO.out ad n c (u8s m) rfl ?qc1 hnews hone ?qc4 ?qc5 ?qc6 ?_)
    case qc1 => rw [hlen, HL.out]; omega
    case qc4 => unfold maxLen at *; omega
    case qc5 => omega
    case qc6 => simp
    intro v' w1 hown hgrow hnn hat
    obtain ⟨A', c', rfl, _⟩ := own_byt (l := l ++ m) (by rw [u8s_append]; exact hown)
    obtain ⟨g1, g2, g3⟩ := Wr.app hp HH.out HO.out hs (Below.refl _ _) hown (by rw [HL.out]) hgrow hat
    clear hown hgrow hnn hat h0 f0 hnews
    go_wp2
    go_end0
    exact ⟨rfl, g3.out⟩
end Go.Proofs.Ytbdondgonghooaa
