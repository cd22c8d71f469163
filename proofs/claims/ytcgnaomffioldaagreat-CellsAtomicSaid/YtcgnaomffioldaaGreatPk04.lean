/-
  Cells: changes that grow in memory; what reading takes.
  codec.Writer: what each of its methods does, told of a writer that holds a list of bytes ('Wr').
  Cells: a record of changes, read.
  Cells: a record of all, read.
  []byte(s) of any string.
-/
import Derived.Test.YtcgnaomffioldaaGreatPk03
import Derived.Test.YtcgnaomffioldaaGreatPk02
import Derived.Maps.AppendAt
import Derived.Deep.AppendLies
import Derived.Test.YtcgnaomffioldaaGreatPk01
import Derived.Laws.IdiomStrings
/-! Cells: changes that grow in memory; what reading takes. -/
namespace Go.Proofs.YtcgnaomffioldaaGreat
open Go.RowKit Codec

abbrev Ro := Option Addr × Nat × Nat
def chCells (L : List (Ro × Ch)) : List Value := (L.map fun y => (chV y.1.1 y.1.2.1 y.1.2.2 y.2).toList).flatten
theorem chCells_len (L : List (Ro × Ch)) : (chCells L).length = L.length * 3 := by
  induction L with
  | nil => rfl
  | cons y L ih =>
    unfold chCells at ih ⊢
    rw [List.map_cons, List.flatten_cons, List.length_append, ih, List.length_cons]
    simp [chV]
    omega
theorem chCells_at : ∀ (L : List (Ro × Ch)) (i : Nat) (y : Ro × Ch), L[i]? = some y → ∀ (j : Nat) (v : Value), (chV y.1.1 y.1.2.1 y.1.2.2 y.2)[j]? = some v → (chCells L)[i * 3 + j]? = some v
  | [], i, y, h, _, _, _ => by simp at h
  | z :: L, 0, y, h, j, v, hv => by
    simp at h
    subst h
    have hj : j < 3 := by
      have := (Array.getElem?_eq_some_iff.1 hv).1
      simpa [chV] using this
    unfold chCells
    rw [List.map_cons, List.flatten_cons, Nat.zero_mul, Nat.zero_add, List.getElem?_append_left (by simp [chV]; exact hj)]
    simpa using hv
  | z :: L, i + 1, y, h, j, v, hv => by
    have h' : L[i]? = some y := by simpa using h
    have ih := chCells_at L i y h' j v hv
    unfold chCells at ih ⊢
    rw [List.map_cons, List.flatten_cons, List.getElem?_append_right (by simp [chV]; omega), ← ih]
    congr 1
    simp [chV]
    omega
/-- CHANGES IN A ROW THAT MAY GROW, IN BLOCKS OF S. -/
def Gch (w : World) (S : Nat → Prop) (v : Value) (l : List Ch) : Prop :=
  ∃ L : List (Ro × Ch), L.map (·.2) = l ∧ w.ownsRow 0 67 3 v l.length (chCells L) ∧ (∀ g, v.ownBlock = some g → S g) ∧ ∀ y ∈ L, Byt w (fun k => S k ∧ v.ownBlock ≠ some k) y.1.1 y.1.2.1 y.1.2.2 y.2.v
theorem Gch.nil (w : World) (S : Nat → Prop) : Gch w S (.slice none 0 0) [] := ⟨[], rfl, World.ownsRow_nil _ _ _ _, (fun _ h => by cases h), (fun _ h => absurd h (by simp))⟩
variable {w w' : World} {S T U : Nat → Prop} {v : Value} {l : List Ch}
theorem Gch.turned (h : Gch w S v l) (ht : Turned T w w') (hd : ∀ k, k < w.heap.size → S k → ¬ T k) : Gch w' S v l := by
  obtain ⟨L, h1, h2, h4, h3⟩ := h
  refine ⟨L, h1, ?_, h4, fun y hy => (h3 y hy).turned ht fun k hk hs => hd k hk hs.1⟩
  obtain ⟨e1, e2⟩ := h2
  refine ⟨e1, ?_⟩
  rcases e2 with e2 | ⟨g, cap, cur, rfl, e3, e4, e5⟩
  · exact .inl e2
  · exact .inr ⟨g, cap, cur, rfl, e3, (ht.block g (lt_of_cells e4) (hd g (lt_of_cells e4) (h4 g rfl))).trans e4, e5⟩
theorem Gch.below (h : Gch w S v l) (hb : Below w.heap.size w w') : Gch w' S v l :=
  h.turned (T := fun _ => False) (Turned.of_below hb) fun _ _ _ h => h
theorem Gch.mono (h : Gch w S v l) (hT : ∀ k, k < w.heap.size → S k → T k) : Gch w T v l := by
  obtain ⟨L, h1, h2, h4, h3⟩ := h
  exact ⟨L, h1, h2, fun g hg => hT g (h2.lt g hg).2 (h4 g hg), fun y hy => (h3 y hy).mono fun k hk hs => ⟨hT k hk hs.1, hs.2⟩⟩
theorem Gch.slice (h : Gch w S v l) : ∃ A c, v = .slice A l.length c ∧ Chs w S A l.length c l := by
  obtain ⟨L, h1, h2, h9, h3⟩ := h
  obtain ⟨e1, e2⟩ := h2
  have hlen : L.length = l.length := by rw [← h1, List.length_map]
  rcases e2 with ⟨rfl, e2⟩ | ⟨g, cap, cur, rfl, e3, e4, e5, e6, e7, e8⟩
  · have hl : l = [] := List.eq_nil_of_length_eq_zero e2
    subst hl
    exact ⟨none, 0, rfl, Chs.nil _ _ _ _ (Nat.zero_le _)⟩
  · refine ⟨_, _, rfl, rfl, e5, e6, fun h0 => ⟨g, 0, rfl, h9 g rfl, lt_of_cells e4, fun i x hx => ?_⟩⟩
    have hi : i < L.length := by rw [hlen]; exact (List.getElem?_eq_some_iff.1 hx).1
    obtain ⟨y, hy⟩ : ∃ y, L[i]? = some y := ⟨_, List.getElem?_eq_getElem hi⟩
    have hyx : y.2 = x := by
      rw [← h1, List.getElem?_map, hy] at hx
      simpa using hx
    refine ⟨y.1.1, y.1.2.1, y.1.2.2, fun j u hu => ?_, by rw [← hyx]; exact (h3 y (List.mem_of_getElem? hy)).mono fun k _ hk => hk.1⟩
    rw [← hyx] at hu
    have hc := chCells_at L i y hy j u hu
    rw [← e8] at hc
    rw [Nat.zero_add, cell_of_cells e4]
    have hlt := (List.getElem?_eq_some_iff.1 hc).1
    rw [List.length_take] at hlt
    rw [List.getElem?_take_of_lt (by omega)] at hc
    simpa using hc
theorem chg_info3 : (Tryz.prog.info? 67).map (fun i => (i.zero, i.size, i.bytes)) = some (some (.agg #[.string ⟨#[]⟩, .slice none 0 0, .bool false]), 3, 48) := by kernel_rfl
theorem Gch.push (h : Gch w S v l) {q k : Nat} {A : Option Addr} {n c : Nat} {x : Ch} (hq : ∀ (j : Nat) (u : Value), (chV A n c x)[j]? = some u → w.cell? ⟨q, j, none⟩ = some u) (hy : Byt w U A n c x.v) (hU : ∀ k, k < w.heap.size → U k → ¬ S k) (hl : l.length ≤ 10000000) (ty : TypeId) :
    ∃ A' c' W', (Builtin.append_ #[44, 44] ty #[v, .slice (some ⟨q, 0, none⟩) 1 k]).run Tryz.prog w = .ok (.slice A' (l.length + 1) c') W' ∧ Gch W' (fun b => S b ∨ U b ∨ (w.heap.size ≤ b ∧ b < W'.heap.size)) (.slice A' (l.length + 1) c') (l ++ [x]) ∧ Turned S w W' := by
  obtain ⟨i0, hi, hz0, hz1, hz2⟩ := info_parts chg_info3
  obtain ⟨L, h1, h2, h4, h3⟩ := h
  obtain ⟨v', W', hr, g1, g2, _, g4⟩ := run_append_own_at (P := Tryz.prog) w 0 44 ty 67 i0 (.agg #[.string ⟨#[]⟩, .slice none 0 0, .bool false]) 3 48 Tryz.underlying44 hi hz0 hz1 hz2 rfl (by decide) v l.length (chCells L) h2 ⟨q, 0, none⟩ 1 k (chV A n c x).toList rfl
    (fun j u hj => by rw [add_plain, Nat.zero_add]; exact hq j u (by simpa using hj)) (by simp [chV, Value.oneCell']) (by unfold maxLen; omega) (by omega) (Nat.zero_le _)
  have ht : Turned S w W' := Turned.of_gr g2 fun g hg => h4 g hg
  have keep : ∀ {A : Option Addr} {n c : Nat} {y : List UInt8} {V : Nat → Prop}, Byt w V A n c y → (∀ b, b < w.heap.size → V b → (S b ∨ U b) ∧ v.ownBlock ≠ some b) → Byt W' (fun b => (S b ∨ U b ∨ (w.heap.size ≤ b ∧ b < W'.heap.size)) ∧ v'.ownBlock ≠ some b) A n c y := fun {A n c y V} hx hV => by
    have hx1 : Byt w (fun b => V b ∧ b < w.heap.size) A n c y := hx.mono fun b hb h => ⟨h, hb⟩
    refine (hx1.grown g2 (fun g hg => .inl fun hh => (hV g hh.2 hh.1).2 hg)).mono fun b _ hb => ?_
    have hv := hV b hb.2 hb.1
    refine ⟨hv.1.elim .inl (fun h => .inr (.inl h)), ?_⟩
    rcases g4 with hl | hl
    · rw [hl]; exact hv.2
    · rw [hl]
      intro e
      injection e with e
      have := hb.2
      omega
  have hown' : ∀ g, v'.ownBlock = some g → S g ∨ U g ∨ (w.heap.size ≤ g ∧ g < W'.heap.size) := fun g hg => by
    rcases g4 with hl | hl
    · rw [hl] at hg
      exact .inl (h4 g hg)
    · have hlt := (g1.lt g hg).2
      rw [hl] at hg
      injection hg with hg
      subst hg
      exact .inr (.inr ⟨Nat.le_refl _, hlt⟩)
  obtain ⟨A', c', rfl⟩ : ∃ A' c', v' = .slice A' (l.length + 1) c' := by
    obtain ⟨_, e2⟩ := g1
    rcases e2 with ⟨_, e2⟩ | ⟨g', cap, cur, rfl, _⟩
    · omega
    · exact ⟨_, _, rfl⟩
  refine ⟨A', c', W', hr, ⟨L ++ [((A, n, c), x)], by simp [h1], ?_, hown', fun y hy' => ?_⟩, ht⟩
  · rw [List.length_append, List.length_singleton]
    have e : chCells (L ++ [((A, n, c), x)]) = chCells L ++ (chV A n c x).toList := by simp [chCells]
    rw [e]
    exact g1
  · rcases List.mem_append.1 hy' with h | h
    · exact keep (h3 y h) fun b _ hb => ⟨.inl hb.1, hb.2⟩
    · simp only [List.mem_singleton] at h
      subst h
      exact keep hy fun b hb hu => ⟨.inr hu, fun e => hU b hb hu (h4 b e)⟩

/-! ### what reading takes -/
theorem ui_len {l : List UInt8} {e : Int} (h : uiE l e = 0) : e = 0 ∧ (uiL l e).length + 1 ≤ l.length := by
  unfold uiE at h
  by_cases he : e = 0
  · rw [if_pos he] at h
    refine ⟨he, ?_⟩
    unfold uiL
    rw [if_pos he, List.length_drop]
    have h1 := (put_rd 0 l (by omega) (by omega)).2.2.1
    have h2 := rd_le 0 l
    omega
  · rw [if_neg he] at h
    exact absurd h he
theorem fxL_len (l : List UInt8) (e k : Int) : (fxL l e k).length ≤ l.length := by
  unfold fxL
  split <;> simp
theorem byL_len (l : List UInt8) (e m : Int) : (byL l e m).length ≤ l.length := by
  have h1 := uiL_length l e
  have h2 := fxL_len (uiL l e) 0 (uiX l e)
  unfold byL
  split
  · exact h1
  · split <;> omega
theorem by_bad {l : List UInt8} {e m : Int} (h : byE l e m ≠ 0) : byB l e m = [] := by
  unfold byE at h
  unfold byB
  split
  · rfl
  · split
    · rfl
    · rename_i h1 h2
      rw [if_neg h1, if_neg h2] at h
      unfold fxB
      rw [if_neg h]
theorem by_take (l : List UInt8) (e m : Int) : (byB l e m ≠ [] ∨ byE l e m = 0) → e = 0 ∧ (byL l e m).length + (byB l e m).length + 1 ≤ l.length := by
  intro h
  have h0 : byE l e m = 0 := h.elim (fun h => Classical.byContradiction fun h2 => h (by_bad h2)) id
  have hu : uiE l e = 0 := Classical.byContradiction fun h2 => by
    unfold byE at h0
    rw [if_pos h2] at h0
    exact h2 h0
  obtain ⟨he, hl⟩ := ui_len hu
  refine ⟨he, ?_⟩
  unfold byE at h0
  unfold byL byB
  rw [if_neg (show ¬ uiE l e ≠ 0 from fun h => h hu)] at h0
  rw [if_neg (show ¬ uiE l e ≠ 0 from fun h => h hu), if_neg (show ¬ uiE l e ≠ 0 from fun h => h hu)]
  split at h0
  · exact absurd h0 (by decide)
  · rename_i h3
    rw [if_neg h3, if_neg h3]
    obtain ⟨_, _, h4⟩ := tkE_zero h0
    unfold fxL fxB
    rw [if_pos h0, if_pos h0, List.length_drop, List.length_take]
    omega
theorem by_few (l : List UInt8) (e : Int) (m : Nat) : (byB l e (m : Int)).length ≤ m := by
  unfold byB
  split
  · simp
  · split
    · simp
    · unfold fxB
      split
      · rw [List.length_take]
        omega
      · simp
theorem rc1_take {l : List UInt8} {e : Int} (h : mayC (rc1 l e).1 = true) : (rc1 l e).2.1.length + (rc1 l e).1.k.length + (rc1 l e).1.v.length + 1 ≤ l.length := by
  have hk := rc1_k l e
  have hk1 : byB l e 64 ≠ [] := by
    intro h2
    unfold mayC at h
    rw [hk, h2] at h
    simp at h
  have h1 := (by_take l e 64 (.inl hk1)).2
  have h2 := fxL_len (byL l e 64) (byE l e 64) 1
  rw [hk]
  unfold rc1
  split
  · simp only [List.length_nil]
    omega
  · simp only
    by_cases h3 : byE (fxL (byL l e 64) (byE l e 64) 1) (boE (byL l e 64) (byE l e 64)) 4096 = 0
    · have h4 := (by_take _ _ 4096 (.inr h3)).2
      omega
    · rw [by_bad h3]
      have h4 := byL_len (fxL (byL l e 64) (byE l e 64) 1) (boE (byL l e 64) (byE l e 64)) 4096
      simp only [List.length_nil]
      omega
end Go.Proofs.YtcgnaomffioldaaGreat

/-! codec.Writer: what each of its methods does, told of a writer that holds a list of bytes ('Wr'). -/
namespace Go.Proofs.YtcgnaomffioldaaGreat
open Go.RowKit Codec

/-- THE STRUCT AT BLOCK p IS A WRITER that holds the bytes l; all its memory lies in blocks of S. -/
def Wr (w : World) (S : Nat → Prop) (p : Nat) (l : List UInt8) : Prop :=
  S p ∧ ∃ A c, w.heap[p]? = some (.cells #[.slice A l.length c] 178 (0, 0)) ∧ w.ownsRow 0 5 1 (.slice A l.length c) l.length (u8s l) ∧ ∀ a, A = some a → S a.block

section
variable {w w' : World} {S : Nat → Prop} {p : Nat} {l : List UInt8}
theorem Wr.lt (h : Wr w S p l) : p < w.heap.size := by
  obtain ⟨_, A, c, hh, _⟩ := h
  exact lt_of_cells hh
theorem own_lt {base : Nat} {e : TypeId} {size : Nat} {A : Option Addr} {n c : Nat} {xs : List Value} (h : w.ownsRow base e size (.slice A n c) n xs) : ∀ a, A = some a → a.block < w.heap.size := by
  rintro a rfl
  exact (h.lt a.block rfl).2
theorem Wr.mono {T : Nat → Prop} (h : Wr w S p l) (hS : ∀ b, b < w.heap.size → S b → T b) : Wr w T p l := by
  have hlt := h.lt
  obtain ⟨hp, A, c, hh, ho, hs⟩ := h
  exact ⟨hS _ hlt hp, A, c, hh, ho, fun a ha => hS _ (own_lt ho a ha) (hs a ha)⟩
/-- What a writer does not hold may turn. -/
theorem Wr.turned {T : Nat → Prop} (h : Wr w S p l) (ht : Turned T w w') (hd : ∀ b, b < w.heap.size → S b → ¬ T b) : Wr w' S p l := by
  have hlt := h.lt
  obtain ⟨hp, A, c, hh, ho, hs⟩ := h
  refine ⟨hp, A, c, (ht.block p hlt (hd p hlt hp)).trans hh, ?_, hs⟩
  obtain ⟨h1, h2⟩ := ho
  refine ⟨h1, ?_⟩
  rcases h2 with h2 | ⟨g, cap, cur, hv, hg, hhg, r⟩
  · exact .inl h2
  · have hgl := lt_of_cells hhg
    have hsg : S g := hs ⟨g, 0, none⟩ (by injection hv)
    exact .inr ⟨g, cap, cur, hv, hg, (ht.block g hgl (hd g hgl hsg)).trans hhg, r⟩
theorem Rd.turned {e : Int} {T : Nat → Prop} (h : Rd w S p l e) (ht : Turned T w w') (hd : ∀ b, b < w.heap.size → S b → ¬ T b) : Rd w' S p l e := by
  have hlt := h.lt
  obtain ⟨hB, A, n, c, hh, hy⟩ := h
  exact ⟨hB, A, n, c, (ht.block p hlt (hd p hlt hB)).trans hh, hy.turned ht hd⟩

/-- The store behind an append: the writer then. -/
theorem Wr.put_back {w1 : World} {l m : List UInt8} {A A' : Option Addr} {c c' n : Nat} (hp : S p) (hh : w.heap[p]? = some (.cells #[.slice A l.length c] 178 (0, 0))) (ho : w.ownsRow 0 5 1 (.slice A l.length c) l.length (u8s l)) (hs : ∀ a, A = some a → S a.block)
    (hsz : w.heap.size ≤ w'.heap.size) (hw : ∀ k, k < w.heap.size → w'.heap[k]? = w.heap[k]?)
    (ho1 : w1.ownsRow 0 5 1 (.slice A' n c') n (u8s l ++ u8s m)) (hn : n = l.length + m.length) (hg : w'.grownBy w1 (Value.slice A l.length c).ownBlock)
    (hat : (Value.slice A' n c').ownBlock = (Value.slice A l.length c).ownBlock ∨ (Value.slice A' n c').ownBlock = some w'.heap.size) :
    Wr (w1.setCell ⟨p, 0, none⟩ (.slice A' n c')) (fun b => S b ∨ w.heap.size ≤ b) p (l ++ m) := by
  have hplt := lt_of_cells hh
  have hne : ∀ g, (Value.slice A l.length c).ownBlock = some g → g ≠ p := by
    rintro g hg rfl
    rcases ho.2 with ⟨hv, _⟩ | ⟨g', cap, cur, hv, _, hhg, _⟩
    · rw [hv] at hg; simp [Value.ownBlock] at hg
    · rw [hv] at hg
      simp [Value.ownBlock] at hg
      subst hg
      rw [hh] at hhg
      injection hhg with hhg
      injection hhg with _ ht _
      exact absurd ht (by decide)
  have hp1 : w1.heap[p]? = some (.cells #[.slice A l.length c] 178 (0, 0)) :=
    (hg.block p (by omega) (fun e => hne p e.symm rfl)).trans ((hw p hplt).trans hh)
  have hlen : n = (l ++ m).length := by rw [hn, List.length_append]
  subst hlen
  rw [← u8s_append] at ho1
  have hne1 : ∀ g, (Value.slice A' (l ++ m).length c').ownBlock = some g → g ≠ p := by
    intro g hg1
    rcases hat with e | e
    · rw [e] at hg1; exact hne g hg1
    · rw [e] at hg1; injection hg1; omega
  refine ⟨.inl hp, A', c', by simpa using set_of_cells hp1 0 _, ?_, ?_⟩
  · obtain ⟨h1, h2⟩ := ho1
    refine ⟨h1, ?_⟩
    rcases h2 with h2 | ⟨g, cap, cur, hv, hgb, hhg, r⟩
    · exact .inl h2
    · have : g ≠ p := hne1 g (by rw [hv]; rfl)
      exact .inr ⟨g, cap, cur, hv, hgb, (Below.heap_setCell _ _ _ _ this).trans hhg, r⟩
  · rintro a rfl
    rcases hat with e | e
    · rcases A with _ | a0
      · simp [Value.ownBlock] at e
      · simp [Value.ownBlock] at e
        exact .inl (by rw [e]; exact hs a0 rfl)
    · simp [Value.ownBlock] at e
      exact .inr (by omega)
end

theorem own_wr {S : Nat → Prop} {A : Option Addr} {n c : Nat} (hs : ∀ a, A = some a → S a.block) : ∀ g, (Value.slice A n c).ownBlock = some g → S g := by
  intro g hg
  rcases A with _ | a
  · simp [Value.ownBlock] at hg
  · simp [Value.ownBlock] at hg
    rw [← hg]; exact hs a rfl

/-- What the walk is told behind an append to a writer's bytes. -/
theorem Wr.app {w wx w1 : World} {S : Nat → Prop} {p : Nat} {l m : List UInt8} {A A' : Option Addr} {c c' n : Nat} (hp : S p) (hh : w.heap[p]? = some (.cells #[.slice A l.length c] 178 (0, 0))) (ho : w.ownsRow 0 5 1 (.slice A l.length c) l.length (u8s l)) (hs : ∀ a, A = some a → S a.block)
    (hx : Below w.heap.size w wx) (ho1 : w1.ownsRow 0 5 1 (.slice A' n c') n (u8s l ++ u8s m)) (hn : n = l.length + m.length) (hg : wx.grownBy w1 (Value.slice A l.length c).ownBlock)
    (hat : (Value.slice A' n c').ownBlock = (Value.slice A l.length c).ownBlock ∨ (Value.slice A' n c').ownBlock = some wx.heap.size) :
    w1.cell? ⟨p, 0, none⟩ = some (.slice A l.length c) ∧ w1.frozen? ⟨p, 0, none⟩ = false ∧
      Hid (Wr (w1.setCell ⟨p, 0, none⟩ (.slice A' n c')) (fun b => S b ∨ w.heap.size ≤ b) p (l ++ m) ∧ Turned S w (w1.setCell ⟨p, 0, none⟩ (.slice A' n c'))) := by
  have hplt := lt_of_cells hh
  have hne : (Value.slice A l.length c).ownBlock ≠ some p := by
    intro hg
    rcases ho.2 with ⟨hv, _⟩ | ⟨g', cap, cur, hv, _, hhg, _⟩
    · rw [hv] at hg; simp [Value.ownBlock] at hg
    · rw [hv] at hg
      simp [Value.ownBlock] at hg
      subst hg
      rw [hh] at hhg
      injection hhg with hhg
      injection hhg with _ ht _
      exact absurd ht (by decide)
  have hp1 : w1.heap[p]? = some (.cells #[.slice A l.length c] 178 (0, 0)) :=
    (hg.block p (Nat.lt_of_lt_of_le hplt hx.size) (fun e => hne e.symm)).trans ((hx.block p hplt).trans hh)
  refine ⟨by rw [cell_of_cells hp1 0]; rfl, free_of_cells hp1 0, ?_⟩
  refine ⟨Wr.put_back hp hh ho hs hx.size (fun k hk => hx.block k hk) ho1 hn hg hat, ?_⟩
  exact ((Turned.of_below hx).trans (Turned.of_gr hg (own_wr hs)) fun _ _ h => h).set hp _ _



theorem own_cap {w : World} {base : Nat} {e : TypeId} {size : Nat} {A : Option Addr} {n c : Nat} {xs : List Value} (h : w.ownsRow base e size (.slice A n c) n xs) : n ≤ c := by
  rcases h.2 with ⟨hv, rfl⟩ | ⟨g', cap, cur, hv, _, _, hn, _⟩
  · omega
  · injection hv with _ _ hc; omega

/-- The post of a writer's call. -/
def Put (w : World) (S : Nat → Prop) (p : Nat) (l : List UInt8) (e : Ending) (w' : World) : Prop := e = .returned (.tuple #[]) ∧ Wr w' (fun b => S b ∨ w.heap.size ≤ b) p l ∧ Turned S w w'

set_option maxHeartbeats 1000000 in
theorem wfixed {w : World} {S T : Nat → Prop} {p : Nat} {l m : List UInt8} {A : Option Addr} {n c : Nat} (h : Wr w S p l) (hm : Byt w T A n c m) (hb : l.length + n ≤ 140737488355328) :
    Calls Tryz.prog 111 #[.pointer (some ⟨p, 0, none⟩), .slice A n c] w (Put w S p (l ++ m)) := by
  obtain ⟨i0, hi, hz0, hz1, hz2⟩ := info_parts u8_info
  have hmax := hm.max
  have hcap := hm.cap
  have hmlen := hm.len
  have hW := Lib.hid h
  obtain ⟨hp, A0, c0, hh, ho, hs⟩ := h
  have h0 := cell_of_cells hh 0
  simp only [List.getElem?_toArray, List.getElem?_cons_zero] at h0
  have f0 := free_of_cells hh 0
  have hoc := own_cap ho
  have HH := Lib.hid hh
  have HO := Lib.hid ho
  have HL := Lib.hid hmlen
  rcases A with _ | ad
  · have hn0 : n = 0 := by
      rcases Nat.eq_zero_or_pos n with h0 | h0
      · exact h0
      · obtain ⟨_, _, hA, _⟩ := hm.row h0
        cases hA
    subst hn0
    obtain rfl : m = [] := List.eq_nil_of_length_eq_zero hmlen
    have fin : Put w S p (l ++ []) (.returned (.tuple #[])) (w.setCell ⟨p, 0, none⟩ (.slice A0 l.length c0)) := by
      rw [List.append_nil]
      refine ⟨rfl, ⟨.inl hp, A0, c0, by simpa using set_of_cells hh 0 (.slice A0 l.length c0), ?_, fun a ha => .inl (hs a ha)⟩, (Turned.refl _ _).set hp _ _⟩
      obtain ⟨h1, h2⟩ := ho
      refine ⟨h1, ?_⟩
      rcases h2 with h2 | ⟨g, cap, cur, hv, hgb, hhg, r⟩
      · exact .inl h2
      · have : g ≠ p := by
          rintro rfl
          rw [hh] at hhg
          injection hhg with hhg
          injection hhg with _ ht _
          exact absurd ht (by decide)
        exact .inr ⟨g, cap, cur, hv, hgb, (Below.heap_setCell _ _ _ _ this).trans hhg, r⟩
    clear hm hh ho hmlen
    go_enter Tryz.func111, Tryz.ntmps111
    go_wp2_with (at_builtin; refine wpList_append_zero (by rfl) _ _ 54 (by rfl) 5 i0 Tryz.underlying54 hi A0 l.length c0 c hoc (by rfl) (by rfl) ?_)
    go_end0
    exact fin
  · have hnews := byt_news hm
    have hlen := u8s_length m
    have hone := u8s_one m
    clear hm hh ho hmlen
    go_enter Tryz.func111, Tryz.ntmps111
    go_wp2_with (at_builtin; refine wpList_append_own_at _ rfl _ _ 54 rfl 0 5 i0 (.int .u8 0) 1 1 Tryz.underlying54 hi hz0 hz1 hz2 rfl (by decide) _ l.length (u8s l) rfl HO.out ad n c (u8s m) rfl ?qc1 hnews hone ?qc4 ?qc5 ?qc6 ?_)
    case qc1 => rw [hlen, HL.out]; omega
    case qc4 => unfold maxLen at *; omega
    case qc5 => omega
    case qc6 => simp
    intro v' w1 hown hgrow hnn hat
    obtain ⟨A', c', rfl, _⟩ := own_byt (l := l ++ m) (by rw [u8s_append]; exact hown)
    obtain ⟨g1, g2, g3⟩ := Wr.app hp HH.out HO.out hs (Below.refl _ _) hown (by rw [HL.out]) hgrow hat
    clear hown hgrow hnn hat h0 f0 hnews
    go_wp2
    go_end0
    exact ⟨rfl, g3.out⟩
end Go.Proofs.YtcgnaomffioldaaGreat

/-! Cells: a record of changes, read. -/
namespace Go.Proofs.YtcgnaomffioldaaGreat
open Go.RowKit Codec

/-- Within a round: a reader, a change that is being read, the changes ahead of it. -/
structure RcS (w1 W : World) (S1 S2 : Nat → Prop) (p x0 : Nat) (l : List UInt8) (e : Int) (v : Value) (acc : List Ch) (CS : Array Value) : Prop where
  rd : Rd W S1 p l e
  gc : Gch W S2 v acc
  tn : Turned (fun k => k = p) w1 W
  row : W.heap[x0]? = some (.cells CS 67 (0, 0))
section
variable {w1 W W' : World} {S1 S2 : Nat → Prop} {p x0 : Nat} {l l' : List UInt8} {e e' : Int} {v : Value} {acc : List Ch} {CS : Array Value}
theorem turned_of_gr {p : Nat} (h : W.grownBy W' (some p)) : Turned (fun k => k = p) W W' := Turned.of_gr h fun _ e => (Option.some.inj e).symm
theorem RcS.call (h : RcS w1 W S1 S2 p x0 l e v acc CS) (h2 : ∀ k, S2 k → k ≠ p) (h0 : x0 ≠ p) (hg : W.grownBy W' (some p)) (hr : Rd W' S1 p l' e') : RcS w1 W' S1 S2 p x0 l' e' v acc CS :=
  ⟨hr, h.gc.turned (turned_of_gr hg) fun k _ hk e => h2 k hk e, h.tn.trans (turned_of_gr hg) fun _ _ h => h, ((turned_of_gr hg).block x0 (lt_of_cells h.row) h0).trans h.row⟩
theorem RcS.store (h : RcS w1 W S1 S2 p x0 l e v acc CS) (h1 : ¬ S1 x0) (h2 : ¬ S2 x0) (h0 : w1.heap.size ≤ x0) (i : Nat) (u : Value) : RcS w1 (W.setCell ⟨x0, i, none⟩ u) S1 S2 p x0 l e v acc (CS.setIfInBounds i u) := by
  have ht : Turned (fun k => k = x0) W (W.setCell ⟨x0, i, none⟩ u) := (Turned.refl (fun k => k = x0) W).set rfl i u
  refine ⟨?_, h.gc.turned ht fun k _ hk e => h2 (by rw [← show k = x0 from e]; exact hk), h.tn.trans ht fun k hk e => by omega, set_of_cells h.row i u⟩
  exact h.rd.turned ht fun k _ hk e => h1 (by rw [← show k = x0 from e]; exact hk)
end

/-- The loop's state. -/
def RcR (w w1 : World) (p M : Nat) (l0 : List UInt8) (e0 : Int) (N : Nat) (v left : Value) (wr : World) : Prop :=
  ∃ (m : Nat) (acc : List Ch) (l : List UInt8) (e : Int), left = .int .u64 (m : Int) ∧ m ≤ M ∧ rcGo M [] l0 e0 = rcGo m acc l e ∧ Rd wr (fun k => w.heap.size ≤ k ∧ k < w1.heap.size) p l e ∧ Gch wr (w1.heap.size ≤ ·) v acc ∧ Turned (fun k => k = p) w1 wr ∧ acc.length + l.length ≤ N
/-- What readChanges tells. -/
def RcPost (w : World) (r : Option (List Ch)) (e : Ending) (w' : World) : Prop :=
  (match r with
   | none => e = .returned (.tuple #[.slice none 0 0, .bool false])
   | some a => ∃ A c, e = .returned (.tuple #[.slice A a.length c, .bool true]) ∧ Chs w' (w.heap.size ≤ ·) A a.length c a) ∧ Below w.heap.size w w'
theorem rcM_no {b : List UInt8} (h : uiX b 0 ≠ 2) : rcM b = none := by
  unfold rcM
  rw [if_pos h]
set_option maxHeartbeats 4000000 in
set_option maxRecDepth 100000 in
theorem readchs_any {w : World} {S : Nat → Prop} {A : Option Addr} {n c : Nat} {b : List UInt8} (hb : Byt w S A n c b) (hn : n ≤ 10000000) :
    Calls Tryz.prog 57 #[.slice A n c] w fun e w' => RcPost w (rcM b) e w' := by
  have hnr := newReader hb (by omega)
  have HN := Lib.hid (And.intro hb.len hn)
  clear hb hn
  go_enter Tryz.func57, Tryz.ntmps57
  go_upto_region 2 with (go_at_call 80; refine hnr.mono ?_; clear hnr; rintro _ w1 ⟨p, rfl, hr1, hb1⟩)
  have hr1 := hr1.mono (T := fun k => w.heap.size ≤ k ∧ k < w1.heap.size) fun k hk h => ⟨h, hk⟩
  have hu1 := uint_any hr1
  have HB1 := Lib.hid (And.intro hb1 hr1.1)
  clear hr1 hb1
  by_cases hk : uiX b 0 = 2
  · have hk' : ((uiX b 0 : Int) != 2) = false := by rw [hk]; rfl
    go_upto_region 5 with (go_at_call 81; refine hu1.mono ?_; clear hu1; rintro _ w2 ⟨rfl, hr2, hg2⟩)
    have hu2 := uint_any hr2
    have HG2 := Lib.hid (turned_of_gr hg2)
    clear hr2 hg2 hk'
    go_upto_region 6 with (go_at_call 81; refine hu2.mono ?_; clear hu2; rintro _ w3 ⟨rfl, hr3, hg3⟩)
    obtain ⟨M, hM⟩ : ∃ M, M = uiX (uiL b 0) (uiE b 0) := ⟨_, rfl⟩
    obtain ⟨l0, hl0⟩ : ∃ l0, l0 = uiL (uiL b 0) (uiE b 0) := ⟨_, rfl⟩
    obtain ⟨e0, he0⟩ : ∃ e0, e0 = uiE (uiL b 0) (uiE b 0) := ⟨_, rfl⟩
    rw [← hl0, ← he0] at hr3
    rw [← hM]
    have hl0n : l0.length ≤ n := by
      have h1 := uiL_length b 0
      have h2 := uiL_length (uiL b 0) (uiE b 0)
      have h3 := HN.out.1
      rw [hl0]
      omega
    have HR : Hid (rcM b = rcEnd (rcGo M [] l0 e0)) := Lib.hid (by
      unfold rcM
      rw [if_neg (by simpa using hk), hM, hl0, he0])
    have HM := Lib.hid (show M < 18446744073709551616 by rw [hM]; exact uiX_lt _ _)
    have H0 : Hid (RcR w w1 p M l0 e0 n (.slice none 0 0) (.int .u64 (M : Int)) w3) := Lib.hid ⟨M, [], l0, e0, rfl, Nat.le_refl _, rfl, hr3, Gch.nil _ _, HG2.out.trans (turned_of_gr hg3) fun _ _ h => h, by simpa using hl0n⟩
    clear hr3 hg3 HG2 hM hl0 he0 hl0n hk
    go_loopw [5, 6] (fun v left wr => RcR w w1 p M l0 e0 n v left wr) (fun _ left _ => (intOf left).toNat)
    case atStart => exact H0.out
    case round =>
      obtain ⟨m, acc, l, e, rfl, hm, hgo, hr, hg, ht, hl⟩ := hrel
      clear H0
      rcases Nat.eq_zero_or_pos m with rfl | hpos
      · have hend := end_rd hr
        have hlt : ¬ (0 : Int) < ((0 : Nat) : Int) := by omega
        rw [rcGo] at hgo
        have HRE := Lib.hid (HR.out.trans (by rw [hgo]))
        have HK := Lib.hid (And.intro hg ht)
        clear hgo hg ht hr hm hl
        by_cases he : endE l e = 0
        · have he' : (endE l e != 0) = false := by simpa using he
          go_wp2_with (go_at_call 83; refine hend.mono ?_; clear hend; rintro _ _ ⟨rfl, rfl⟩)
          go_ret2
          have hr : rcM b = some acc := by rw [HRE.out, rcEnd, if_pos he]
          rw [hr]
          obtain ⟨A2, c2, hv, hcs⟩ := HK.out.1.slice
          exact ⟨⟨A2, c2, by rw [← hv]; rfl, hcs.mono fun k _ h => Nat.le_trans HB1.out.1.size h⟩, HB1.out.1.trans ((HK.out.2.mono (T := (w.heap.size ≤ ·)) fun k _ e => by rw [show k = p from e]; exact HB1.out.2.1).below HB1.out.1.size)⟩
        · have he' : (endE l e != 0) = true := by simpa using he
          go_wp2_with (go_at_call 83; refine hend.mono ?_; clear hend; rintro _ _ ⟨rfl, rfl⟩)
          go_ret2
          have hr : rcM b = none := by rw [HRE.out, rcEnd, if_neg he]
          rw [hr]
          exact ⟨rfl, HB1.out.1.trans ((HK.out.2.mono (T := (w.heap.size ≤ ·)) fun k _ e => by rw [show k = p from e]; exact HB1.out.2.1).below HB1.out.1.size)⟩
      · have hlt : (0 : Int) < (m : Int) := by omega
        have hs1 : IntKind.u64.wrap ((m : Int) - 1) = ((m - 1 : Nat) : Int) := by rw [IntWalk.u64_in _ (by have := HM.out; omega)]; omega
        have HL := Lib.hid (And.intro hgo (And.intro hm hl))
        have hp1 : p < w1.heap.size := HB1.out.2.2
        obtain ⟨A5, c5, rfl, _⟩ := hg.slice
        have H5 : Hid (RcS w1 (wr.alloc (.cells #[.string ⟨#[]⟩, .slice none 0 0, .bool false] 67)) (fun k => w.heap.size ≤ k ∧ k < w1.heap.size) (fun k => w1.heap.size ≤ k ∧ k < wr.heap.size) p wr.heap.size l e (.slice A5 acc.length c5) acc #[.string ⟨#[]⟩, .slice none 0 0, .bool false]) :=
          Lib.hid ⟨hr.turned (T := fun _ => False) (Turned.of_below ((Below.refl _ _).alloc (Nat.le_refl _) _)) fun _ _ _ h => h, (hg.mono fun k hk h => ⟨h, hk⟩).below ((Below.refl _ _).alloc (Nat.le_refl _) _), ht.alloc _, heap_alloc_new wr _⟩
        have HX : Hid (p ≠ wr.heap.size ∧ w1.heap.size ≤ wr.heap.size ∧ p < w1.heap.size) := Lib.hid ⟨by have := ht.size; omega, ht.size, hp1⟩
        have HS2 : Hid (∀ k, w1.heap.size ≤ k ∧ k < wr.heap.size → k ≠ p) := Lib.hid fun k hk e => by omega
        have hln : l.length ≤ 140737488355328 := by have := HN.out.2; omega
        have HLN := Lib.hid hln
        clear hr hg ht hgo hm hl hp1 hln
        go_upto_region 9 with fail
        generalize (wr.alloc (.cells #[.string ⟨#[]⟩, .slice none 0 0, .bool false] 67)) = w5 at *
        generalize wr.heap.size = x0 at *
        have hby := bytes_any (most := 64) H5.out.rd HLN.out (by omega)
        obtain ⟨K, hK⟩ : ∃ K, K = byB l e 64 := ⟨_, rfl⟩
        obtain ⟨l1, hl1⟩ : ∃ l1, l1 = byL l e 64 := ⟨_, rfl⟩
        obtain ⟨e1, he1⟩ : ∃ e1, e1 = byE l e 64 := ⟨_, rfl⟩
        rw [← hK, ← hl1, ← he1] at hby
        have HEQ := Lib.hid (And.intro hK (And.intro hl1 he1))
        have HL1 : Hid (l1.length ≤ 140737488355328) := Lib.hid (by have := byL_len l e 64; have := HLN.out; rw [hl1]; omega)
        clear hK hl1 he1
        go_upto_region 10 with (go_at_call 82; refine hby.mono ?_; clear hby; rintro _ w6 ⟨A6, n6, c6, rfl, hy6, hr6, hg6, _⟩; have hcs : (convert 54 9 (.slice A6 n6 c6)).run Tryz.prog w6 = .ok (.string (st K)) w6 := byt_string hy6; have H6 := Lib.hid (H5.out.call HS2.out HX.out.1.symm hg6 hr6); have hc0 := cell_of_cells H6.out.row 0; have hf0 := free_of_cells H6.out.row 0; clear hy6 hr6 hg6)
        have H7 := Lib.hid (H6.out.store (fun h => by have := HX.out.2.1; omega) (fun h => by omega) HX.out.2.1 0 (.string (st K)))
        clear hcs hc0 hf0 H5 H6
        generalize w6.setCell ⟨x0, 0, none⟩ (.string (st K)) = w7 at *
        have hbo := bool_any H7.out.rd
        obtain ⟨G, hG⟩ : ∃ G, G = boX l1 e1 := ⟨_, rfl⟩
        obtain ⟨l2, hl2⟩ : ∃ l2, l2 = fxL l1 e1 1 := ⟨_, rfl⟩
        obtain ⟨e2, he2⟩ : ∃ e2, e2 = boE l1 e1 := ⟨_, rfl⟩
        rw [← hG, ← hl2, ← he2] at hbo
        have HEQ2 := Lib.hid (And.intro hG (And.intro hl2 he2))
        have HL2 : Hid (l2.length ≤ 140737488355328) := Lib.hid (by have := fxL_len l1 e1 1; have := HL1.out; rw [hl2]; omega)
        clear hG hl2 he2
        go_upto_region 11 with (go_at_call 84; refine hbo.mono ?_; clear hbo; rintro _ w8 ⟨rfl, hr8, hg8⟩; have H8 := Lib.hid (H7.out.call HS2.out HX.out.1.symm hg8 hr8); have hc2 := cell_of_cells H8.out.row 2; have hf2 := free_of_cells H8.out.row 2; clear hr8 hg8)
        have H9 := Lib.hid (H8.out.store (fun h => by have := HX.out.2.1; omega) (fun h => by omega) HX.out.2.1 2 (.bool G))
        clear hc2 hf2 H7 H8
        generalize w8.setCell ⟨x0, 2, none⟩ (.bool G) = w9 at *
        have hc2 : w9.cell? ⟨x0, 2, none⟩ = some (.bool G) := cell_of_cells H9.out.row 2
        have HRC : Hid (rc1 l e = if G = true then (⟨K, [], true⟩, l2, e2) else (⟨K, byB l2 e2 4096, false⟩, byL l2 e2 4096, byE l2 e2 4096)) := Lib.hid (by
          unfold rc1
          rw [← HEQ.out.1, ← HEQ.out.2.1, ← HEQ.out.2.2, ← HEQ2.out.1, ← HEQ2.out.2.1, ← HEQ2.out.2.2])
        cases G
        · have hby2 := bytes_any (most := 4096) H9.out.rd HL2.out (by omega)
          obtain ⟨V, hV⟩ : ∃ V, V = byB l2 e2 4096 := ⟨_, rfl⟩
          obtain ⟨l3, hl3⟩ : ∃ l3, l3 = byL l2 e2 4096 := ⟨_, rfl⟩
          obtain ⟨e3, he3⟩ : ∃ e3, e3 = byE l2 e2 4096 := ⟨_, rfl⟩
          rw [← hV, ← hl3, ← he3] at hby2
          have hrc := HRC.out
          rw [← hV, ← hl3, ← he3, if_neg (by decide)] at hrc
          obtain ⟨X, hX⟩ : ∃ X, X = (⟨K, V, false⟩ : Ch) := ⟨_, rfl⟩
          rw [← hX] at hrc
          have HXE : Hid (X = (rc1 l e).1 ∧ l3 = (rc1 l e).2.1 ∧ e3 = (rc1 l e).2.2) := Lib.hid (by rw [hrc]; exact ⟨rfl, rfl, rfl⟩)
          have HX0 := Lib.hid hX
          clear hV hl3 he3 hrc hX HRC
          go_upto_region 13 with (go_at_call 82; refine hby2.mono ?_; clear hby2; rintro _ wa ⟨Ax, nx, cx, rfl, hya, hra, hga, _⟩; obtain rfl : nx = V.length := hya.len.symm; have Ha := Lib.hid (And.intro (H9.out.call HS2.out HX.out.1.symm hga hra) hya); have hc1 := cell_of_cells Ha.out.1.row 1; have hf1 := free_of_cells Ha.out.1.row 1; clear hya hra hga)
          have HT := Lib.hid (Ha.out.1.store (fun h => by have := HX.out.2.1; omega) (fun h => by omega) HX.out.2.1 1 (.slice Ax V.length cx))
          have hs9 := lt_of_cells H9.out.row
          have HYV := Lib.hid (((Ha.out.2.mono (T := fun k => x0 < k) fun k _ h => by have h' : w9.heap.size ≤ k := h; omega)).turned (T := fun k => k = x0) ((Turned.refl (fun k => k = x0) wa).set rfl 1 (.slice Ax V.length cx)) fun k _ h e => by omega)
          clear hc1 hf1 Ha hc2
          generalize wa.setCell ⟨x0, 1, none⟩ (.slice Ax V.length cx) = wx at *
          have HCS : Hid (((#[Value.string ⟨#[]⟩, .slice none 0 0, .bool false].setIfInBounds 0 (.string (st K))).setIfInBounds 2 (.bool false)).setIfInBounds 1 (.slice Ax V.length cx) = chV Ax X.v.length cx X) := Lib.hid (by rw [HX0.out]; rfl)
          have HYV : Hid (Byt wx (fun k => x0 < k) Ax X.v.length cx X.v) := Lib.hid (by rw [HX0.out]; exact HYV.out)
          have HT := Lib.hid (show RcS w1 wx _ _ p x0 l3 e3 (.slice A5 acc.length c5) acc (((#[Value.string ⟨#[]⟩, .slice none 0 0, .bool false].setIfInBounds 0 (.string (st K))).setIfInBounds 2 (.bool false)).setIfInBounds 1 (.slice Ax V.length cx)) from HT.out)
          clear H9
          have hmb := maybe_any X Ax cx wx
          obtain ⟨CV, hCV⟩ : ∃ CV, CV = chV Ax X.v.length cx X := ⟨_, rfl⟩
          rw [← hCV] at hmb
          have HCV := Lib.hid hCV
          have HROW := Lib.hid (HT.out.row.trans (by rw [HCS.out, ← hCV]))
          clear hCV
          by_cases hmay : mayC X = true
          · rw [hmay] at hmb
            go_upto_region 15 with (first
              | (refine wpList_load_row (by rfl) 67 (.tmp 7) (by rfl) x0 (by rfl) 67 CV (0, 0) _ HROW.out Tryz.underlying67 (by rfl) (by rw [HCV.out]; exact chg_info) ?_)
              | (go_at_call 64; refine hmb.mono ?_; clear hmb; rintro _ w10 ⟨rfl, hb10⟩; have H10 := Lib.hid hb10; clear hb10))
            have hrow10 := Lib.hid ((H10.out.block _ (lt_of_cells HROW.out)).trans HROW.out)
            have hrw := hrow10.out
            rw [HCV.out] at hrw
            have HRW := Lib.hid (show w10.heap[x0]? = some (.cells #[.string (st X.k), .slice Ax X.v.length cx, .bool X.g] 67 (0, 0)) from hrw)
            have hb11 : Below w10.heap.size w10 (w10.alloc (.cells #[.string (st X.k), .slice Ax X.v.length cx, .bool X.g] 67)) := (Below.refl _ _).alloc (Nat.le_refl _) _
            have hx10 := lt_of_cells HRW.out
            have HB11 := Lib.hid (H10.out.trans (hb11.mono H10.out.size))
            obtain ⟨A12, c12, w12, hap, hg12, ht12⟩ := (HT.out.gc.below HB11.out).push (q := w10.heap.size) (k := 1) (A := Ax) (n := X.v.length) (c := cx) (x := X) (fun j u hu => by rw [cell_of_cells (heap_alloc_new w10 _)]; exact hu) (HYV.out.below HB11.out) (fun k _ h1 h2 => by omega) (by have := HL.out.2.2; have := HN.out.2; omega) 44
            have H12 := Lib.hid (And.intro hg12 ht12)
            have HX10 := Lib.hid hx10
            clear hrw hb11 hg12 ht12 hrow10 hx10
            go_wp2_with (first
              | (refine wpList_load_row (by rfl) 67 (.tmp 7) (by rfl) x0 (by rfl) 67 #[.string (st X.k), .slice Ax X.v.length cx, .bool X.g] (0, 0) _ HRW.out Tryz.underlying67 (by rfl) chg_info ?_)
              | (at_builtin; refine wpList_app (by rfl) (.tmp 35) (.tmp 37) 44 (by rfl) (by rfl) (by rfl) hap ?_))
            go_roundw
            case rel =>
              unfold RcR
              have htk := rc1_take (l := l) (e := e) (by rw [← HXE.out.1]; exact hmay)
              have hpl := HX.out.2.1
              refine ⟨m - 1, acc ++ [X], l3, e3, rfl, by have := HL.out.2.1; omega, ?_, ?_, ?_, ?_, ?_⟩
              · have h1 := HL.out.1
                rw [show m = (m - 1) + 1 by omega, rcGo, if_neg (by rw [← HXE.out.1]; simp [hmay]), ← HXE.out.1, ← HXE.out.2.1, ← HXE.out.2.2] at h1
                exact h1
              · exact (HT.out.rd.turned (T := fun _ => False) (Turned.of_below HB11.out) fun _ _ _ h => h).turned H12.out.2 fun k _ h1 h2 => by omega
              · refine H12.out.1.mono fun k hk h => ?_
                have h1 := HT.out.tn.size
                have h2 := HB11.out.size
                rcases h with h | h | h
                · exact h.1
                · omega
                · omega
              · exact (HT.out.tn.trans (Turned.of_below (S := fun k => k = p) HB11.out) fun _ _ h => h).trans H12.out.2 fun k hk h => by omega
              · rw [List.length_append, List.length_singleton, HXE.out.2.1]
                have := HL.out.2.2
                omega
            case measure => simp only [intOf]; omega
          · have hmay' : mayC X = false := by simpa using hmay
            rw [hmay'] at hmb
            clear hmay
            go_wp2_with (first
              | (refine wpList_load_row (by rfl) 67 (.tmp 7) (by rfl) x0 (by rfl) 67 CV (0, 0) _ HROW.out Tryz.underlying67 (by rfl) (by rw [HCV.out]; exact chg_info) ?_)
              | (go_at_call 64; refine hmb.mono ?_; clear hmb; rintro _ w10 ⟨rfl, hb10⟩; have H10 := Lib.hid hb10; clear hb10))
            go_ret2
            have hr : rcM b = none := by
              rw [HR.out, HL.out.1, show m = (m - 1) + 1 by omega, rcGo, if_pos (by rw [← HXE.out.1]; exact hmay')]
              rfl
            rw [hr]
            exact ⟨rfl, (HB1.out.1.trans ((HT.out.tn.mono (T := (w.heap.size ≤ ·)) fun k _ e => by rw [show k = p from e]; exact HB1.out.2.1).below HB1.out.1.size)).trans (H10.out.mono (Nat.le_trans HB1.out.1.size HT.out.tn.size))⟩
        · have hrc := HRC.out
          rw [if_pos rfl] at hrc
          obtain ⟨X, hX⟩ : ∃ X, X = (⟨K, [], true⟩ : Ch) := ⟨_, rfl⟩
          rw [← hX] at hrc
          obtain ⟨l3, hl3⟩ : ∃ l3, l3 = l2 := ⟨_, rfl⟩
          obtain ⟨e3, he3⟩ : ∃ e3, e3 = e2 := ⟨_, rfl⟩
          rw [← hl3, ← he3] at hrc
          have HXE : Hid (X = (rc1 l e).1 ∧ l3 = (rc1 l e).2.1 ∧ e3 = (rc1 l e).2.2) := Lib.hid (by rw [hrc]; exact ⟨rfl, rfl, rfl⟩)
          have HX0 := Lib.hid hX
          have HT := Lib.hid (show RcS w1 w9 _ _ p x0 l3 e3 (.slice A5 acc.length c5) acc _ by rw [hl3, he3]; exact H9.out)
          clear hrc hX HRC hl3 he3
          go_upto_region 13 with fail
          obtain ⟨Ax, hAx⟩ : ∃ Ax : Option Addr, Ax = none := ⟨_, rfl⟩
          obtain ⟨cx, hcx⟩ : ∃ cx : Nat, cx = 0 := ⟨_, rfl⟩
          have HYV : Hid (Byt w9 (fun k => x0 < k) Ax X.v.length cx X.v) := Lib.hid (by rw [HX0.out, hAx, hcx]; exact Byt.nil _ _ _ _ (Nat.zero_le _))
          have HCS : Hid ((#[Value.string ⟨#[]⟩, .slice none 0 0, .bool false].setIfInBounds 0 (.string (st K))).setIfInBounds 2 (.bool true) = chV Ax X.v.length cx X) := Lib.hid (by rw [HX0.out, hAx, hcx]; rfl)
          clear hAx hcx H9 hc2
          have hmb := maybe_any X Ax cx w9
          obtain ⟨CV, hCV⟩ : ∃ CV, CV = chV Ax X.v.length cx X := ⟨_, rfl⟩
          rw [← hCV] at hmb
          have HCV := Lib.hid hCV
          have HROW := Lib.hid (HT.out.row.trans (by rw [HCS.out, ← hCV]))
          clear hCV
          by_cases hmay : mayC X = true
          · rw [hmay] at hmb
            go_upto_region 15 with (first
              | (refine wpList_load_row (by rfl) 67 (.tmp 7) (by rfl) x0 (by rfl) 67 CV (0, 0) _ HROW.out Tryz.underlying67 (by rfl) (by rw [HCV.out]; exact chg_info) ?_)
              | (go_at_call 64; refine hmb.mono ?_; clear hmb; rintro _ w10 ⟨rfl, hb10⟩; have H10 := Lib.hid hb10; clear hb10))
            have hrow10 := Lib.hid ((H10.out.block _ (lt_of_cells HROW.out)).trans HROW.out)
            have hrw := hrow10.out
            rw [HCV.out] at hrw
            have HRW := Lib.hid (show w10.heap[x0]? = some (.cells #[.string (st X.k), .slice Ax X.v.length cx, .bool X.g] 67 (0, 0)) from hrw)
            have hb11 : Below w10.heap.size w10 (w10.alloc (.cells #[.string (st X.k), .slice Ax X.v.length cx, .bool X.g] 67)) := (Below.refl _ _).alloc (Nat.le_refl _) _
            have hx10 := lt_of_cells HRW.out
            have HB11 := Lib.hid (H10.out.trans (hb11.mono H10.out.size))
            obtain ⟨A12, c12, w12, hap, hg12, ht12⟩ := (HT.out.gc.below HB11.out).push (q := w10.heap.size) (k := 1) (A := Ax) (n := X.v.length) (c := cx) (x := X) (fun j u hu => by rw [cell_of_cells (heap_alloc_new w10 _)]; exact hu) (HYV.out.below HB11.out) (fun k _ h1 h2 => by omega) (by have := HL.out.2.2; have := HN.out.2; omega) 44
            have H12 := Lib.hid (And.intro hg12 ht12)
            have HX10 := Lib.hid hx10
            clear hrw hb11 hg12 ht12 hrow10 hx10
            go_wp2_with (first
              | (refine wpList_load_row (by rfl) 67 (.tmp 7) (by rfl) x0 (by rfl) 67 #[.string (st X.k), .slice Ax X.v.length cx, .bool X.g] (0, 0) _ HRW.out Tryz.underlying67 (by rfl) chg_info ?_)
              | (at_builtin; refine wpList_app (by rfl) (.tmp 35) (.tmp 37) 44 (by rfl) (by rfl) (by rfl) hap ?_))
            go_roundw
            case rel =>
              unfold RcR
              have htk := rc1_take (l := l) (e := e) (by rw [← HXE.out.1]; exact hmay)
              have hpl := HX.out.2.1
              refine ⟨m - 1, acc ++ [X], l3, e3, rfl, by have := HL.out.2.1; omega, ?_, ?_, ?_, ?_, ?_⟩
              · have h1 := HL.out.1
                rw [show m = (m - 1) + 1 by omega, rcGo, if_neg (by rw [← HXE.out.1]; simp [hmay]), ← HXE.out.1, ← HXE.out.2.1, ← HXE.out.2.2] at h1
                exact h1
              · exact (HT.out.rd.turned (T := fun _ => False) (Turned.of_below HB11.out) fun _ _ _ h => h).turned H12.out.2 fun k _ h1 h2 => by omega
              · refine H12.out.1.mono fun k hk h => ?_
                have h1 := HT.out.tn.size
                have h2 := HB11.out.size
                rcases h with h | h | h
                · exact h.1
                · omega
                · omega
              · exact (HT.out.tn.trans (Turned.of_below (S := fun k => k = p) HB11.out) fun _ _ h => h).trans H12.out.2 fun k hk h => by omega
              · rw [List.length_append, List.length_singleton, HXE.out.2.1]
                have := HL.out.2.2
                omega
            case measure => simp only [intOf]; omega
          · have hmay' : mayC X = false := by simpa using hmay
            rw [hmay'] at hmb
            clear hmay
            go_wp2_with (first
              | (refine wpList_load_row (by rfl) 67 (.tmp 7) (by rfl) x0 (by rfl) 67 CV (0, 0) _ HROW.out Tryz.underlying67 (by rfl) (by rw [HCV.out]; exact chg_info) ?_)
              | (go_at_call 64; refine hmb.mono ?_; clear hmb; rintro _ w10 ⟨rfl, hb10⟩; have H10 := Lib.hid hb10; clear hb10))
            go_ret2
            have hr : rcM b = none := by
              rw [HR.out, HL.out.1, show m = (m - 1) + 1 by omega, rcGo, if_pos (by rw [← HXE.out.1]; exact hmay')]
              rfl
            rw [hr]
            exact ⟨rfl, (HB1.out.1.trans ((HT.out.tn.mono (T := (w.heap.size ≤ ·)) fun k _ e => by rw [show k = p from e]; exact HB1.out.2.1).below HB1.out.1.size)).trans (H10.out.mono (Nat.le_trans HB1.out.1.size HT.out.tn.size))⟩
  · have hk' : ((uiX b 0 : Int) != 2) = true := by simp; omega
    go_wp2_with (go_at_call 81; refine hu1.mono ?_; clear hu1; rintro _ w2 ⟨rfl, hr2, hg2⟩)
    go_ret2
    rw [rcM_no hk]
    exact ⟨rfl, HB1.out.1.trans (((turned_of_gr hg2).mono (T := (w.heap.size ≤ ·)) fun k _ e => by rw [show k = p from e]; exact HB1.out.2.1).below HB1.out.1.size)⟩
end Go.Proofs.YtcgnaomffioldaaGreat

/-! Cells: a record of all, read. -/
namespace Go.Proofs.YtcgnaomffioldaaGreat
open Go.RowKit Codec

theorem st_toList (l : List UInt8) : (st l).toList = l := by simp [st]
theorem run_leq_st (t : TypeId) (a b : List UInt8) (W : World) : (binOp .leq t (.string (st a)) (.string (st b))).run Tryz.prog W = .ok (.bool (decide (a ≤ b))) W := by
  have e : (Op.bytesLess a b || a == b) = decide (a ≤ b) := by
    rw [bytes_less]
    by_cases h : a < b
    · simp [h, List.le_of_lt h]
    · by_cases h2 : a = b
      · subst h2
        simp
      · have h3 : ¬ a ≤ b := fun h4 => h2 (List.le_antisymm h4 (kle_of_not h))
        simp [h, h2, h3]
  rw [← e]
  simp [binOp, Op.stringOp, st_toList]
/-- The loop's state. -/
def RaR (w w1 : World) (p mb M : Nat) (l0 : List UInt8) (e0 : Int) (N : Nat) (lastv left : Value) (wr : World) : Prop :=
  ∃ (m : Nat) (t : Tb) (last l : List UInt8) (e : Int), lastv = .string (st last) ∧ left = .int .u64 (m : Int) ∧ m ≤ M ∧ raGo M [] [] l0 e0 = raGo m t last l e ∧ Rd wr (fun k => w.heap.size ≤ k ∧ k < w1.heap.size) p l e ∧ Nms wr (w1.heap.size ≤ ·) mb t ∧ Turned (fun k => k = p) w1 wr ∧ t.length + l.length ≤ N ∧ ∀ q ∈ t, q.1 ≤ last
/-- What readAll tells. -/
def RaPost (w : World) (r : Option Tb) (e : Ending) (w' : World) : Prop :=
  (match r with
   | none => e = .returned (.tuple #[.map none, .bool false])
   | some t => ∃ mb, e = .returned (.tuple #[.map (some mb), .bool true]) ∧ Nms w' (w.heap.size ≤ ·) mb t) ∧ Below w.heap.size w w'
theorem raM_no {b : List UInt8} (h : uiX b 0 ≠ 1) : raM b = none := by
  unfold raM
  rw [if_pos h]
theorem doC_end {t : Tb} {k v : List UInt8} (h : ∀ q ∈ t, q.1 < k) : doC t ⟨k, v, false⟩ = t ++ [(k, v)] := by
  unfold doC
  rw [List.filter_eq_self.2 (fun q hq => by simpa using h q hq), List.filter_eq_nil_iff.2 (fun q hq => by simpa using klt_as (h q hq))]
  simp
set_option maxHeartbeats 4000000 in
set_option maxRecDepth 100000 in
theorem readall_any {w : World} {S : Nat → Prop} {A : Option Addr} {n c : Nat} {b : List UInt8} (hb : Byt w S A n c b) (hn : n ≤ 10000000) :
    Calls Tryz.prog 54 #[.slice A n c] w fun e w' => RaPost w (raM b) e w' := by
  have hnr := newReader hb (by omega)
  have HN := Lib.hid (And.intro hb.len hn)
  have hmm := @run_makeMap Tryz.prog
  clear hb hn
  go_enter Tryz.func54, Tryz.ntmps54
  go_upto_region 2 with (go_at_call 80; refine hnr.mono ?_; clear hnr; rintro _ w1 ⟨p, rfl, hr1, hb1⟩)
  have hr1 := hr1.mono (T := fun k => w.heap.size ≤ k ∧ k < w1.heap.size) fun k hk h => ⟨h, hk⟩
  have hu1 := uint_any hr1
  have HB1 := Lib.hid (And.intro hb1 hr1.1)
  clear hr1 hb1
  by_cases hk : uiX b 0 = 1
  · have hk' : ((uiX b 0 : Int) != 1) = false := by rw [hk]; rfl
    go_upto_region 4 with (go_at_call 81; refine hu1.mono ?_; clear hu1; rintro _ w2 ⟨rfl, hr2, hg2⟩)
    have HG2 := Lib.hid (And.intro (turned_of_gr hg2) hr2)
    clear hr2 hg2 hk'
    go_upto_region 6 with fail
    have hr2' := HG2.out.2.turned (T := fun _ => False) (Turned.of_below ((Below.refl _ w2).alloc (Nat.le_refl _) (.map #[] 0))) fun _ _ _ h => h
    have hu2 := uint_any hr2'
    have HMM := Lib.hid (made_map w2)
    have HA2 := Lib.hid (show Below w2.heap.size w2 (w2.alloc (.map #[] 0)) from (Below.refl _ w2).alloc (Nat.le_refl _) (.map #[] 0))
    clear hr2' hmm
    generalize w2.alloc (.map #[] 0) = w2b at *
    go_upto_region 7 with (go_at_call 81; refine hu2.mono ?_; clear hu2; rintro _ w3 ⟨rfl, hr3, hg3⟩)
    obtain ⟨M, hM⟩ : ∃ M, M = uiX (uiL b 0) (uiE b 0) := ⟨_, rfl⟩
    obtain ⟨l0, hl0⟩ : ∃ l0, l0 = uiL (uiL b 0) (uiE b 0) := ⟨_, rfl⟩
    obtain ⟨e0, he0⟩ : ∃ e0, e0 = uiE (uiL b 0) (uiE b 0) := ⟨_, rfl⟩
    rw [← hl0, ← he0] at hr3
    rw [← hM]
    have hl0n : l0.length ≤ n := by
      have h1 := uiL_length b 0
      have h2 := uiL_length (uiL b 0) (uiE b 0)
      have h3 := HN.out.1
      rw [hl0]
      omega
    have HR : Hid (raM b = raEnd (raGo M [] [] l0 e0)) := Lib.hid (by
      unfold raM
      rw [if_neg (by simpa using hk), hM, hl0, he0])
    have HM := Lib.hid (show M < 18446744073709551616 by rw [hM]; exact uiX_lt _ _)
    have hp1 : p < w1.heap.size := HB1.out.2.2
    have h12 := HG2.out.1.size
    have HMB := Lib.hid (show w1.heap.size ≤ w2.heap.size from h12)
    have H0 : Hid (RaR w w1 p w2.heap.size M l0 e0 n (.string (st [])) (.int .u64 (M : Int)) w3) := Lib.hid ⟨M, [], [], l0, e0, rfl, rfl, Nat.le_refl _, rfl, hr3,
      (HMM.out.mono (T := fun k => w1.heap.size ≤ k) fun k _ e => by rw [show k = w2.heap.size from e]; exact h12).turned (turned_of_gr hg3) fun k _ h1 h2 => by omega,
      (HG2.out.1.trans (Turned.of_below (S := fun k => k = p) HA2.out) fun _ _ h => h).trans (turned_of_gr hg3) fun _ _ h => h, by simpa using hl0n, by simp⟩
    clear hr3 hg3 HG2 hM hl0 he0 hl0n hk HMM HA2 hp1 h12
    generalize w2.heap.size = mb at *
    have e0' : (Value.string ⟨#[]⟩) = .string (st []) := rfl
    go_loopw [6, 7] (fun last left wr => RaR w w1 p mb M l0 e0 n last left wr) (fun _ left _ => (intOf left).toNat)
    case atStart => exact H0.out
    case round =>
      clear e0'
      obtain ⟨m, t, last, l, e, rfl, rfl, hm, hgo, hr, hg, ht, hl, hlast⟩ := hrel
      clear H0
      rcases Nat.eq_zero_or_pos m with rfl | hpos
      · have hend := end_rd hr
        have hlt : ¬ (0 : Int) < ((0 : Nat) : Int) := by omega
        rw [raGo] at hgo
        have HRE := Lib.hid (HR.out.trans (by rw [hgo]))
        have HK := Lib.hid (And.intro hg ht)
        clear hgo hg ht hr hm hl hlast
        by_cases he : endE l e = 0
        · have he' : (endE l e != 0) = false := by simpa using he
          go_wp2_with (go_at_call 83; refine hend.mono ?_; clear hend; rintro _ _ ⟨rfl, rfl⟩)
          go_ret2
          have hr : raM b = some t := by rw [HRE.out, raEnd, if_pos he]
          rw [hr]
          exact ⟨⟨mb, rfl, HK.out.1.mono fun k _ h => Nat.le_trans HB1.out.1.size h⟩, HB1.out.1.trans ((HK.out.2.mono (T := (w.heap.size ≤ ·)) fun k _ e => by rw [show k = p from e]; exact HB1.out.2.1).below HB1.out.1.size)⟩
        · have he' : (endE l e != 0) = true := by simpa using he
          go_wp2_with (go_at_call 83; refine hend.mono ?_; clear hend; rintro _ _ ⟨rfl, rfl⟩)
          go_ret2
          have hr : raM b = none := by rw [HRE.out, raEnd, if_neg he]
          rw [hr]
          exact ⟨rfl, HB1.out.1.trans ((HK.out.2.mono (T := (w.heap.size ≤ ·)) fun k _ e => by rw [show k = p from e]; exact HB1.out.2.1).below HB1.out.1.size)⟩
      · have hlt : (0 : Int) < (m : Int) := by omega
        have hs1 : IntKind.u64.wrap ((m : Int) - 1) = ((m - 1 : Nat) : Int) := by rw [IntWalk.u64_in _ (by have := HM.out; omega)]; omega
        have HL := Lib.hid (And.intro hgo (And.intro hm (And.intro hl hlast)))
        have hp1 : p < w1.heap.size := HB1.out.2.2
        have hmb := hg.1
        have HX : Hid (p < w1.heap.size ∧ w1.heap.size ≤ mb) := Lib.hid ⟨hp1, hmb⟩
        have hln : l.length ≤ 140737488355328 := by have := HN.out.2; omega
        have hby := bytes_any (most := 64) hr hln (by omega)
        obtain ⟨K, hK⟩ : ∃ K, K = byB l e 64 := ⟨_, rfl⟩
        obtain ⟨l1, hl1⟩ : ∃ l1, l1 = byL l e 64 := ⟨_, rfl⟩
        obtain ⟨e1, he1⟩ : ∃ e1, e1 = byE l e 64 := ⟨_, rfl⟩
        rw [← hK, ← hl1, ← he1] at hby
        have HEQ := Lib.hid (And.intro hK (And.intro hl1 he1))
        have HL1 : Hid (l1.length ≤ 140737488355328) := Lib.hid (by have := byL_len l e 64; rw [hl1]; omega)
        have HK := Lib.hid (And.intro hg ht)
        clear hr hg ht hgo hm hl hp1 hln hK hl1 he1 hlast hmb
        go_upto_region 10 with (go_at_call 82; refine hby.mono ?_; clear hby; rintro _ w6 ⟨A6, n6, c6, rfl, hy6, hr6, hg6, _⟩; have hcs : (convert 54 9 (.slice A6 n6 c6)).run Tryz.prog w6 = .ok (.string (st K)) w6 := byt_string hy6; have H6 := Lib.hid (And.intro hr6 (And.intro (HK.out.1.turned (turned_of_gr hg6) fun k _ h1 h2 => by have := HX.out.1; omega) (HK.out.2.trans (turned_of_gr hg6) fun _ _ h => h))); clear hy6 hr6 hg6)
        clear hcs
        have hby2 := bytes_any (most := 4096) H6.out.1 HL1.out (by omega)
        obtain ⟨V, hV⟩ : ∃ V, V = byB l1 e1 4096 := ⟨_, rfl⟩
        obtain ⟨l2, hl2⟩ : ∃ l2, l2 = byL l1 e1 4096 := ⟨_, rfl⟩
        obtain ⟨e2, he2⟩ : ∃ e2, e2 = byE l1 e1 4096 := ⟨_, rfl⟩
        rw [← hV, ← hl2, ← he2] at hby2
        have HEQ2 := Lib.hid (And.intro hV (And.intro hl2 he2))
        clear hV hl2 he2
        have HRG : Hid (raGo m t last l e = if K ≤ last then none else raGo (m - 1) (t ++ [(K, V)]) K l2 e2) := Lib.hid (by
          rw [show m = (m - 1) + 1 by omega, raGo, ← HEQ.out.1, ← HEQ.out.2.1, ← HEQ.out.2.2, ← HEQ2.out.1, ← HEQ2.out.2.1, ← HEQ2.out.2.2]
          rfl)
        go_upto_region 11 with (go_at_call 82; refine hby2.mono ?_; clear hby2; rintro _ w7 ⟨A7, n7, c7, rfl, hy7, hr7, hg7, _⟩)
        have H7 := Lib.hid (And.intro hr7 (And.intro (H6.out.2.1.turned (turned_of_gr hg7) fun k _ h1 h2 => by have := HX.out.1; omega) (And.intro (H6.out.2.2.trans (turned_of_gr hg7) fun _ _ h => h) hy7)))
        have hm6 := H6.out.2.1.lt
        have HM6 := Lib.hid hm6
        clear hr7 hg7 hy7 H6 hm6
        have hle := run_leq_st 9 K last
        by_cases hkl : K ≤ last
        · have hd : decide (K ≤ last) = true := by simpa using hkl
          rw [hd] at hle
          go_wp2_with fail
          go_ret2
          have hr : raM b = none := by
            rw [HR.out, HL.out.1, HRG.out, if_pos hkl]
            rfl
          rw [hr]
          exact ⟨rfl, HB1.out.1.trans ((H7.out.2.2.1.mono (T := (w.heap.size ≤ ·)) fun k _ e => by rw [show k = p from e]; exact HB1.out.2.1).below HB1.out.1.size)⟩
        · have hd : decide (K ≤ last) = false := by simpa using hkl
          rw [hd] at hle
          have hKl : last < K := List.not_le.1 hkl
          have hkt : ∀ q ∈ t, q.1 < K := fun q hq => by
            have h1 := HL.out.2.2.2 q hq
            exact Std.lt_of_le_of_lt h1 hKl
          have hKn : K.length ≤ 64 := by rw [HEQ.out.1]; exact by_few l e 64
          obtain ⟨w8, hrun, hn8, hm8⟩ := H7.out.2.1.put (k := K) (v := V) (by omega) (by have := HL.out.2.2.1; have := HN.out.2; omega) H7.out.2.2.2 (fun q _ h => by have := HM6.out; have h' : w6.heap.size ≤ q := h; omega)
          rw [doC_end hkt] at hn8
          have H8 := Lib.hid (And.intro hn8 (mapTurned_turned' hm8))
          have HKN := Lib.hid (And.intro hkl (And.intro hkt hKn))
          clear hkl hKl hkt hKn hn8 hm8
          go_wp2_with fail
          go_roundw
          case rel =>
            unfold RaR
            have hne : K ≠ [] := fun e => HKN.out.1 (by rw [e]; exact List.nil_le _)
            have htk := (by_take l e 64 (.inl (by rw [← HEQ.out.1]; exact hne))).2
            have h67 := HM6.out
            rw [← HEQ.out.1, ← HEQ.out.2.1] at htk
            refine ⟨m - 1, t ++ [(K, V)], K, l2, e2, rfl, rfl, by have := HL.out.2.1; omega, ?_, ?_, ?_, ?_, ?_, ?_⟩
            · rw [HL.out.1, HRG.out, if_neg HKN.out.1]
            · exact H7.out.1.turned H8.out.2 fun k _ h1 h2 => by have := HX.out.2; omega
            · refine H8.out.1.mono fun k _ h => ?_
              rcases h with h | h
              · exact h
              · have h' : w6.heap.size ≤ k := h
                have := HX.out.2
                show w1.heap.size ≤ k
                omega
            · exact H7.out.2.2.1.trans H8.out.2 fun k hk h => by have := HX.out.2; omega
            · have h1 := byL_len l1 e1 4096
              have h2 := HL.out.2.2.1
              rw [List.length_append, List.length_singleton, HEQ2.out.2.1]
              omega
            · intro q hq
              rcases List.mem_append.1 hq with hq | hq
              · exact List.le_of_lt (HKN.out.2.1 q hq)
              · simp only [List.mem_singleton] at hq
                rw [hq]
                exact List.le_refl _
          case measure => simp only [intOf]; omega
  · have hk' : ((uiX b 0 : Int) != 1) = true := by simp; omega
    go_wp2_with (go_at_call 81; refine hu1.mono ?_; clear hu1; rintro _ w2 ⟨rfl, hr2, hg2⟩)
    go_ret2
    rw [raM_no hk]
    exact ⟨rfl, HB1.out.1.trans (((turned_of_gr hg2).mono (T := (w.heap.size ≤ ·)) fun k _ e => by rw [show k = p from e]; exact HB1.out.2.1).below HB1.out.1.size)⟩
end Go.Proofs.YtcgnaomffioldaaGreat

/-! []byte(s) of any string. -/
namespace Go.Proofs.YtcgnaomffioldaaGreat
open Go.RowKit
/-- []byte(s) -/
theorem conv_bytes (l : List UInt8) (hl : l.length ≤ 1000000) (W : World) : ∃ c' W', (convert 9 54 (.string (st l))).run Tryz.prog W = .ok (.slice (some ⟨W.heap.size, 0, none⟩) l.length c') W' ∧ Below W.heap.size W W' ∧ Byt W' (fun b => b = W.heap.size) (some ⟨W.heap.size, 0, none⟩) l.length c' l := by
  have h := run_bytes_of_string (P := Tryz.prog) W 9 54 5 (st l) Tryz.underlying9 Tryz.underlying54 Tryz.underlying5
  rw [st_size] at h
  have hge := grownCap_ge W l.length 0 5
  have hle := grownCap_le_maxLen W l.length 0 5 (by unfold maxLen; omega)
  generalize grownCap W l.length 0 5 = C at *
  refine ⟨C, _, h, (below_drew (Below.refl _ _)).alloc (Nat.le_refl _) _, rfl, hge, hle, fun h0 => ⟨_, 0, rfl, rfl, by simp, fun i hi => ?_⟩⟩
  have hnew : (W.drew.alloc (.cells (bytesRow (st l) C) 5 ((bytesRow (st l) C).size, (bytesRow (st l) C).size + 1))).heap[W.heap.size]? = some _ := heap_alloc_new W.drew _
  rw [cell_of_cells hnew]
  simp [bytesRow, st, Array.getElem?_append, hi]
end Go.Proofs.YtcgnaomffioldaaGreat
