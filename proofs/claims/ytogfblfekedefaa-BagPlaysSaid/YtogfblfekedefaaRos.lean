/-
  ROWS OF STRUCTS OF ANY KIND: f tells an element's cells (size of them each); what such a row reads as, and one laid behind another.
-/
import Derived.Test.YtogfblfekedefaaRowApp
namespace Go.Proofs.Ytogfblfekedefaa
open Go.RowKit

theorem ros_turned {T : Nat → Prop} {w w' : World} (ht : Turned T w w') {k : Nat} (hk : k < w.heap.size) (hT : ¬ T k) (o : Nat) : w'.cell? ⟨k, o, none⟩ = w.cell? ⟨k, o, none⟩ :=
  World.cell?_of_block (w := w) (a := ⟨k, o, none⟩) (ht.block k hk hT)
section
variable {α : Type} {size : Nat} {f : α → List Value}
/-- Elements' cells, one behind the other. -/
def rosL (f : α → List Value) (l : List α) : List Value := (l.map f).flatten
theorem rosL_app (l m : List α) : rosL f (l ++ m) = rosL f l ++ rosL f m := by simp [rosL]
theorem rosL_len (hf : ∀ x, (f x).length = size) : ∀ l : List α, (rosL f l).length = l.length * size
  | [] => by simp [rosL]
  | x :: l => by
    have h := rosL_len hf l
    unfold rosL at h ⊢
    rw [List.map_cons, List.flatten_cons, List.length_append, hf, h, List.length_cons, Nat.succ_mul]
    omega
theorem rosL_take (hf : ∀ x, (f x).length = size) (l : List α) (k : Nat) (hk : k ≤ l.length) : (rosL f l).take (k * size) = rosL f (l.take k) := by
  have h : rosL f l = rosL f (l.take k) ++ rosL f (l.drop k) := by rw [← rosL_app, List.take_append_drop]
  have h2 : (rosL f (l.take k)).length = k * size := by rw [rosL_len hf, List.length_take, Nat.min_eq_left hk]
  rw [h, ← h2, List.take_left]
theorem rosL_drop (hf : ∀ x, (f x).length = size) (l : List α) (k : Nat) (hk : k ≤ l.length) : (rosL f l).drop (k * size) = rosL f (l.drop k) := by
  have h : rosL f l = rosL f (l.take k) ++ rosL f (l.drop k) := by rw [← rosL_app, List.take_append_drop]
  have h2 : (rosL f (l.take k)).length = k * size := by rw [rosL_len hf, List.length_take, Nat.min_eq_left hk]
  rw [h, ← h2, List.drop_left]
theorem rosL_at (hf : ∀ x, (f x).length = size) (l : List α) {i : Nat} {x : α} (hx : l[i]? = some x) {j : Nat} {v : Value} (hv : (f x)[j]? = some v) : (rosL f l)[i * size + j]? = some v := by
  have hi := (List.getElem?_eq_some_iff.1 hx).1
  have hj := (List.getElem?_eq_some_iff.1 hv).1
  have h : l = l.take i ++ x :: l.drop (i + 1) := by
    rw [← (List.getElem?_eq_some_iff.1 hx).2, ← List.drop_eq_getElem_cons hi, List.take_append_drop]
  have h2 : (rosL f (l.take i)).length = i * size := by rw [rosL_len hf, List.length_take, Nat.min_eq_left (by omega)]
  rw [h, rosL_app, List.getElem?_append_right (by omega), h2, Nat.add_sub_cancel_left]
  unfold rosL
  rw [List.map_cons, List.flatten_cons, List.getElem?_append_left hj, hv]
theorem rosL_one (h1 : ∀ x, ∀ u ∈ f x, u.oneCell' = true) (l : List α) : ∀ u ∈ rosL f l, u.oneCell' = true := by
  intro u hu
  unfold rosL at hu
  obtain ⟨r, hr, hu⟩ := List.mem_flatten.1 hu
  obtain ⟨y, _, rfl⟩ := List.mem_map.1 hr
  exact h1 y u hu
/-- THEY STAND IN MEMORY. -/
structure Ros (size : Nat) (f : α → List Value) (w : World) (S : Nat → Prop) (A : Option Addr) (n c : Nat) (l : List α) : Prop where
  len : l.length = n
  cap : n ≤ c
  max : c ≤ maxLen
  row : 0 < n → ∃ b off, A = some ⟨b, off, none⟩ ∧ S b ∧ b < w.heap.size ∧ ∀ i x, l[i]? = some x → ∀ (j : Nat) (v : Value), (f x)[j]? = some v → w.cell? ⟨b, off + i * size + j, none⟩ = some v
variable {w w' : World} {S T : Nat → Prop} {A : Option Addr} {n c : Nat} {l : List α}
theorem Ros.turned (h : Ros size f w S A n c l) (ht : Turned T w w') (hd : ∀ k, k < w.heap.size → S k → ¬ T k) : Ros size f w' S A n c l :=
  ⟨h.len, h.cap, h.max, fun h0 => by
    obtain ⟨b, off, h1, h2, h3, h4⟩ := h.row h0
    exact ⟨b, off, h1, h2, Nat.lt_of_lt_of_le h3 ht.size, fun i x hx j v hv => (ros_turned ht h3 (hd b h3 h2) _).trans (h4 i x hx j v hv)⟩⟩
theorem Ros.below (h : Ros size f w S A n c l) (hb : Below w.heap.size w w') : Ros size f w' S A n c l :=
  h.turned (T := fun _ => False) (Turned.of_below hb) fun _ _ _ h => h
theorem Ros.mono (h : Ros size f w S A n c l) (hT : ∀ k, k < w.heap.size → S k → T k) : Ros size f w T A n c l :=
  ⟨h.len, h.cap, h.max, fun h0 => by
    obtain ⟨b, off, h1, h2, h3, h4⟩ := h.row h0
    exact ⟨b, off, h1, hT b h3 h2, h3, h4⟩⟩
theorem Ros.nil (w : World) (S : Nat → Prop) (A : Option Addr) (c : Nat) (hc : c ≤ maxLen) : Ros size f w S A 0 c [] := ⟨rfl, Nat.zero_le _, hc, fun h => absurd h (by omega)⟩
theorem Ros.at_ (h : Ros size f w S A n c l) {i : Nat} (hi : i < n) : ∃ b off x, A = some ⟨b, off, none⟩ ∧ S b ∧ b < w.heap.size ∧ l[i]? = some x ∧ ∀ (j : Nat) (v : Value), (f x)[j]? = some v → w.cell? ⟨b, off + i * size + j, none⟩ = some v := by
  obtain ⟨b, off, h1, h2, h3, h4⟩ := h.row (by omega)
  have hx : l[i]? = some (l[i]'(by have := h.len; omega)) := List.getElem?_eq_getElem _
  exact ⟨b, off, _, h1, h2, h3, hx, h4 i _ hx⟩
/-- The cells, as a row that is appended. -/
theorem Ros.cells (hf : ∀ x, (f x).length = size) (h : Ros size f w S A n c l) : RowAt w A n (rosL f l) := fun h0 => by
  obtain ⟨b, off, h1, _, h3, h4⟩ := h.row h0
  refine ⟨b, off, h1, h3, fun j u hu => ?_⟩
  have hj := (List.getElem?_eq_some_iff.1 hu).1
  rw [rosL_len hf] at hj
  have hs : 0 < size := by
    rcases Nat.eq_zero_or_pos size with h | h
    · rw [h] at hj; omega
    · exact h
  have hi : j / size < l.length := (Nat.div_lt_iff_lt_mul hs).2 hj
  obtain ⟨x, hx⟩ : ∃ x, l[j / size]? = some x := ⟨_, List.getElem?_eq_getElem hi⟩
  have hjm : j % size < (f x).length := by rw [hf]; exact Nat.mod_lt _ hs
  have hv : (f x)[j % size]? = some ((f x)[j % size]'hjm) := List.getElem?_eq_getElem hjm
  have h5 := rosL_at hf l hx hv
  have hdm : j / size * size + j % size = j := by rw [Nat.mul_comm]; exact Nat.div_add_mod j size
  rw [hdm, hu] at h5
  injection h5 with h5
  have h6 := h4 _ x hx _ _ hv
  rw [Nat.add_assoc, hdm, ← h5] at h6
  exact h6
theorem Ros.hat (hf : ∀ x, (f x).length = size) (h : Ros size f w S A n c l) (hb : Below w.heap.size w w') : 0 < n → ∃ ad, A = some ad ∧ ∀ j u, (rosL f l)[j]? = some u → w'.cell? (ad.add j) = some u := fun h0 => by
  obtain ⟨b, off, rfl, h3, h4⟩ := (h.below hb).cells hf h0
  exact ⟨_, rfl, fun j u hu => by rw [add_plain]; exact h4 j u hu⟩
theorem Ros.to_ (hf : ∀ x, (f x).length = size) (h : Ros size f w S A n c l) {k : Nat} (hk : k ≤ n) (hb : Below w.heap.size w w') : 0 < k → ∃ ad, A = some ad ∧ ∀ j u, (rosL f (l.take k))[j]? = some u → w'.cell? (ad.add j) = some u := by
  have h1 := row_to (h.cells hf) hk hb (size := size)
  rw [rosL_take hf l k (by rw [h.len]; exact hk)] at h1
  exact h1
theorem Ros.from_ (hf : ∀ x, (f x).length = size) (h : Ros size f w S A n c l) {k : Nat} (hk : k ≤ n) (hb : Below w.heap.size w w') : 0 < n - k → ∃ ad, cutG size A c k = some ad ∧ ∀ j u, (rosL f (l.drop k))[j]? = some u → w'.cell? (ad.add j) = some u := by
  have h1 := row_from (h.cells hf) h.cap hk hb (size := size)
  rw [rosL_drop hf l k (by rw [h.len]; exact hk)] at h1
  exact h1
/-- A row that a call has made. -/
theorem own_ros (hf : ∀ x, (f x).length = size) {B : Nat} {te : TypeId} {v : Value} (h : w.ownsRow B te size v l.length (rosL f l)) : ∃ A c, v = .slice A l.length c ∧ Ros size f w (B ≤ ·) A l.length c l := by
  obtain ⟨e1, e2⟩ := h
  rcases e2 with ⟨rfl, e2⟩ | ⟨g, cap, cur, rfl, e3, e4, e5, e6, e7, e8⟩
  · have hl : l = [] := List.eq_nil_of_length_eq_zero e2
    subst hl
    exact ⟨none, 0, rfl, Ros.nil _ _ _ _ (Nat.zero_le _)⟩
  · refine ⟨_, _, rfl, rfl, e5, e6, fun h0 => ⟨g, 0, rfl, e3, lt_of_cells e4, fun i x hx j u hu => ?_⟩⟩
    have hc := rosL_at hf l hx hu
    rw [← e8] at hc
    rw [Nat.zero_add, cell_of_cells e4]
    have hlt := (List.getElem?_eq_some_iff.1 hc).1
    rw [List.length_take] at hlt
    rw [List.getElem?_take_of_lt (by omega)] at hc
    simpa using hc
/-- Elements' rows laid behind a row of one's own: all of another row, its front, or its end. -/
theorem ros_app {B : Nat} {ts te : TypeId} {i0 : TypeInfo} {z v : Value} {bytes : Nat} (hts : Try.prog.underlying ts = some (.slice te)) (hi : Try.prog.info? te = some i0) (hz0 : i0.zero = some z) (hz1 : i0.size = size) (hz2 : i0.bytes = bytes) (hzs : z.cells.size = size) (hsz : 0 < size) (hby : bytes ≤ 1000)
    (hf : ∀ x, (f x).length = size) (h1 : ∀ x, ∀ u ∈ f x, u.oneCell' = true) {k : List α} (hown : w.ownsRow B te size v k.length (rosL f k)) (hB : B ≤ w.heap.size) {A : Option Addr} {m c : Nat} {l : List α} (hl : l.length = m) (hat : 0 < m → ∃ ad, A = some ad ∧ ∀ j u, (rosL f l)[j]? = some u → w.cell? (ad.add j) = some u) (hb : k.length + m ≤ 1000000) (ty : TypeId) :
    ∃ A' c' W', (Builtin.append_ #[ts, ts] ty #[v, .slice A m c]).run Try.prog w = .ok (.slice A' (k ++ l).length c') W' ∧ W'.ownsRow B te size (.slice A' (k ++ l).length c') (k ++ l).length (rosL f (k ++ l)) ∧ Below B w W' := by
  obtain ⟨A', c', W', r, o, b⟩ := gapp (W := w) (B := B) (v := v) (k := k.length) (xs := rosL f k) (A := A) (n := m) (c := c) (ys := rosL f l) hts hi hz0 hz1 hz2 hzs hsz hown (by rw [rosL_len hf, hl]) hat (rosL_one h1 l) (by omega) hby hB ty
  rw [show k.length + m = (k ++ l).length by rw [List.length_append, hl]] at r o
  rw [← rosL_app] at o
  exact ⟨A', c', W', r, o, b⟩
theorem wpList_ros1 {P : Program} {ops : Array Oper} {rest : List Oper} {o : Oper} {a : Act} {Q : Exit → Act → World → Prop} {w w' : World} (t : TypeId) (x : Operand) {u v' : Value} (hrun : (Instr.buildSlice t 1 #[(0, u)]).run P w = .ok v' w') (h : wpList P ops Q rest (a.put o.dst v') w') (hgd : o.guard = none := by rfl) (hop : o.op = .buildSlice t 1 #[(0, x)] := by rfl) (hx : a.eval x = u := by rfl) : wpList P ops Q (o :: rest) a w :=
  wpList_plain hgd fun _ hK => by
    unfold Oper.wp execOp
    simp only [hop, Sem.run_bind, Sem.run_pure, Result.andThen_ok, List.map_toArray, List.map_cons, List.map_nil, hx, hrun]
    exact hK _ _ h
end
end Go.Proofs.Ytogfblfekedefaa
