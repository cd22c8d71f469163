/-
  Dedup: maps whose keys are ids, in memory; ranges over them.
  Dedup, pure: what an index's calls tell: packs dropped, packs counted.
  Dedup: an index in memory.
  Steps of a plan that read or store a whole row of cells.
  Files, pure: a path's names, whether it may be; trees.
  codec.Reader.Id.
  Objects, pure: what may be, its bytes, and the object of bytes.
-/
import Derived.Test.YtmmibldchfmleaaPk02
import Derived.Test.YtmmibldchfmleaaPk03
import Derived.Maps.OwnSet
import Derived.Maps.RangeWalk
import Derived.Sort.KeysCollected
import Derived.DeepKeys5
import Derived.Test.YtmmibldchfmleaaPk01
import Derived.Lib.Bytealg
import Derived.Deep.MidRow
/-! Dedup: maps whose keys are ids, in memory; ranges over them. -/
namespace Go.Proofs.Ytmmibldchfmleaa
open Go.RowKit Go.Maps

/-- How a map's element reads: as it is. -/
def rvk (v : Value) : Option (DataW Value × List MemPlace) := some (.held v, [])
theorem dd_laid : laidOutB Try.prog = true := by kernel_rfl
theorem idlaw : Keyed Try.prog 31 := Keyed.of_law (deep_law_laid dd_laid (m := 2) (by omega) (of_decide_eq_true (by kernel_rfl)) (by kernel_rfl) (by kernel_rfl))
theorem lits_u8 (d : Nat) (x : UInt8) : Try.prog.keyLits (d + 1) 5 [.int .u8 (x.toNat : Int)] = some [.int .u8 (x.toNat : Int)] := by
  have hx := x.toNat_lt
  have hw : (Lit.int .u8 (x.toNat : Int)).wf = true := by simp [Lit.wf, IntKind.min, IntKind.max, IntKind.signed, IntKind.bits]; omega
  unfold Program.keyLits
  rw [Try.underlying5]
  simp [hw]
theorem mapM_all {α β : Type} {f : α → Option β} {g : α → β} : ∀ {l : List α}, (∀ x ∈ l, f x = some (g x)) → l.mapM f = some (l.map g)
  | [], _ => rfl
  | a :: l, h => by
    rw [List.mapM_cons, h a (by simp), mapM_all fun x hx => h x (by simp [hx])]
    rfl
theorem id_form {l : List UInt8} (h : l.length = 32) : (Value.agg (row8 l)).formed Try.prog 31 = true := by
  have hc : Try.prog.cellsOf 31 = 32 := by kernel_rfl
  unfold Value.formed
  rw [Try.underlying31]
  simp [hc, row8_size, h]
theorem key_bytes (l : List UInt8) : keyBytes (l.map fun x => Lit.int .u8 (x.toNat : Int)) = l := by
  induction l with
  | nil => rfl
  | cons a l ih =>
    have ha := a.toNat_lt
    unfold keyBytes at ih ⊢
    rw [List.map_cons, List.flatMap_cons, ih]
    have h1 : UInt8.ofNat (((a.toNat : Int) % 256).toNat % 256) = a := by
      rw [show ((a.toNat : Int) % 256).toNat % 256 = a.toNat by omega]
      simp
    simp [Lit.keyBytes, IntKind.bits, bytesBE, bytesLE, h1]
/-- An id's key. -/
theorem id_key {l : List UInt8} (h : l.length = 32) : keyOf Try.prog 31 (.agg (row8 l)) = some (.string l) := by
  have hk : Try.prog.keyType 31 = true := by kernel_rfl
  have hc : Try.prog.cellsOf 31 = 32 := by kernel_rfl
  have hc1 : Try.prog.cellsOf 5 = 1 := by kernel_rfl
  obtain ⟨m, hm⟩ : ∃ m, Try.prog.types.size = m + 1 := ⟨Try.prog.types.size - 1, by have : 0 < Try.prog.types.size := of_decide_eq_true (by kernel_rfl); omega⟩
  have hl : Try.prog.keyLits (Try.prog.types.size + 1) 31 (u8s l) = some (l.map fun x => Lit.int .u8 (x.toNat : Int)) := by
    rw [hm]
    unfold Program.keyLits
    rw [Try.underlying31]
    simp only [hc, hc1]
    rw [if_pos (by rw [u8s_length, h]), mapM_all (g := fun i => [Lit.int .u8 ((l[i]?.getD 0).toNat : Int)]) (fun i hi => ?_)]
    · simp only [Option.map_some, Option.some.injEq]
      rw [← List.flatMap_def, ← List.map_eq_flatMap]
      apply List.ext_getElem
      · simp [h]
      · intro i h1 h2
        have hil : i < l.length := by simpa using h2
        simp [List.getElem?_eq_getElem hil]
    · have hil : i < l.length := by rw [h]; simpa using hi
      have e : ((u8s l).drop (i * 1)).take 1 = [.int .u8 ((l[i]?.getD 0).toNat : Int)] := by
        rw [Nat.mul_one, List.getElem?_eq_getElem hil]
        have hiu : i < (u8s l).length := by rw [u8s_length]; exact hil
        rw [List.drop_eq_getElem_cons hiu]
        simp [u8s]
      rw [e]
      exact lits_u8 m _
  unfold keyOf
  rw [Try.underlying31]
  have hcl : (Value.agg (row8 l)).cells.toList = u8s l := by simp [Value.cells, row8]
  simp only [hk, id_form h, hcl, hl, Bool.and_self, if_true, Option.map_some, key_bytes]
theorem str_litk (k : List UInt8) : WideAt.IsKeyLit (.string k) := by trivial
theorem ownsMap_exactk {w : World} {b : Nat} {P : Program} {k : TypeId} {R : Value → Option (DataW Value × List MemPlace)} {n : Nat} {D : DataW Value} (h : w.ownsMap P k R b n D) : w.ownsMap P k R b (Maps.size D) D := by
  obtain ⟨es, clock, hb, F, hs, rfl⟩ := h
  exact ⟨es, clock, hb, F, by simp [Maps.size, length_sorted], rfl⟩
theorem ownsMap_keptk {w w' : World} {b : Nat} {P : Program} {k : TypeId} {R : Value → Option (DataW Value × List MemPlace)} {n : Nat} {D : DataW Value} (h : w.ownsMap P k R b n D) (hb : w'.heap[b]? = w.heap[b]?) : w'.ownsMap P k R b n D := by
  obtain ⟨es, clock, hb', r⟩ := h
  exact ⟨es, clock, hb.trans hb', r⟩
section
variable {V : Type} {enc : V → Value} {w w' : World} {b r : Nat} {t : Tv V} {D : DataW Value} {lf : List UInt8 → Bool}
/-- THE DATUM HAS JUST THESE KEYS, each with what stands there. -/
structure AgrV (enc : V → Value) (D : DataW Value) (t : Tv V) : Prop where
  srt : Sv t
  key : ∀ p ∈ t, p.1.length = 32
  size : Maps.size D = t.length
  has : ∀ k, Maps.has D (.string k) = (getV t k).isSome
  at_ : ∀ k v, getV t k = some v → ∀ z, D.atKey (.string k) z = .held (enc v)
/-- BLOCK b IS A MAP OF THIS TABLE. -/
def Kv (enc : V → Value) (w : World) (b : Nat) (t : Tv V) : Prop := ∃ D, w.ownsMap Try.prog 31 rvk b t.length D ∧ AgrV enc D t
theorem Kv.srt (h : Kv enc w b t) : Sv t := by
  obtain ⟨D, _, ha⟩ := h
  exact ha.srt
theorem Kv.key (h : Kv enc w b t) : ∀ p ∈ t, p.1.length = 32 := by
  obtain ⟨D, _, ha⟩ := h
  exact ha.key
theorem Kv.lt (h : Kv enc w b t) : b < w.heap.size := by
  obtain ⟨D, ho, _⟩ := h
  exact ho.lt
theorem Kv.kept (h : Kv enc w b t) (hb : w'.heap[b]? = w.heap[b]?) : Kv enc w' b t := by
  obtain ⟨D, ho, ha⟩ := h
  exact ⟨D, ownsMap_keptk ho hb, ha⟩
theorem Kv.below (h : Kv enc w b t) (hb : Below w.heap.size w w') : Kv enc w' b t := h.kept (hb.block _ h.lt)
theorem Kv.turned {T : Nat → Prop} (h : Kv enc w b t) (ht : Turned T w w') (hd : ¬ T b) : Kv enc w' b t := h.kept (ht.block _ h.lt hd)
theorem made_kv (enc : V → Value) (w : World) : Kv enc (w.alloc (.map #[] 0)) w.heap.size ([] : Tv V) :=
  ⟨.map [], World.ownsMap_made _ _ _ _, ⟨Sv.nil, fun _ h => (by cases h), rfl, fun _ => rfl, fun _ _ h => (by cases h)⟩⟩
/-- 'm[k] = v'. -/
theorem Kv.put (h : Kv enc w b t) {T E : TypeId} (hT : Try.prog.underlying T = some (.map 31 E)) {k : List UInt8} (hk : k.length = 32) (hl : t.length ≤ 10000000000000) (v : V) :
    ∃ w', (Instr.mapUpdate T (.map (some b)) (.agg (row8 k)) (enc v)).run Try.prog w = .ok () w' ∧ Kv enc w' b (putV t k v) ∧ w.mapTurned w' b := by
  obtain ⟨D, ho, ha⟩ := h
  obtain ⟨w', hrun, ho', hm⟩ := ho.store (t := T) (e := E) idlaw hT (by unfold maxLen; omega) (id_key hk) (d := .held (enc v)) (ps := []) rfl
  have hti := ho.tidy idlaw
  have him := ho.isMap
  have hsz : Maps.size (D.put (.string k) (.held (enc v))) = (putV t k v).length := by
    have h1 := len_put ha.srt k v
    rw [size_put hti, ha.has, ha.size]
    cases hq : (getV t k).isSome <;> simp [hq] at h1 ⊢ <;> omega
  refine ⟨w', hrun, ⟨_, by rw [← hsz]; exact ownsMap_exactk ho', ⟨ha.srt.put _ _, fun p hp => ?_, hsz, fun x => ?_, fun x y hx => ?_⟩⟩, hm⟩
  · unfold putV at hp
    rcases List.mem_append.1 hp with hp | hp
    · rcases List.mem_append.1 hp with hp | hp
      · exact ha.key p (List.mem_filter.1 hp).1
      · simp only [List.mem_singleton] at hp
        rw [hp]
        exact hk
    · exact ha.key p (List.mem_filter.1 hp).1
  · rw [getV_put]
    by_cases e : x = k
    · subst e
      rw [has_put_same him (str_litk x)]
      simp
    · rw [has_put_other (by simpa using e), ha.has, if_neg e]
  · rw [getV_put] at hx
    by_cases e : x = k
    · subst e
      rw [if_pos rfl] at hx
      obtain rfl : v = y := by simpa using hx
      exact fun z => atKey_put_same him (str_litk x) _ _
    · rw [if_neg e] at hx
      exact fun z => by rw [atKey_put_other (by simpa using e)]; exact ha.at_ x y hx z
/-- 'delete(m, k)'. -/
theorem AgrV.del (ha : AgrV enc D t) (hti : Tidy D) (k : List UInt8) : AgrV enc (D.del (.string k)) (delV t k) := by
  refine ⟨ha.srt.del k, fun p hp => ha.key p (List.mem_filter.1 hp).1, ?_, fun x => ?_, fun x y hx => ?_⟩
  · have h1 := size_del (k := .string k) hti
    have h2 := len_del ha.srt k
    rw [ha.has, ha.size] at h1
    omega
  · rw [getV_del]
    by_cases e : x = k
    · subst e
      rw [has_del_same]
      simp
    · rw [has_del_other (by simpa using e), ha.has, if_neg e]
  · rw [getV_del] at hx
    by_cases e : x = k
    · rw [if_pos e] at hx
      cases hx
    · rw [if_neg e] at hx
      exact fun z => by rw [atKey_del_other (by simpa using e)]; exact ha.at_ x y hx z
/-- 'v, ok := m[k]', 'm[k]'. -/
theorem Kv.look (h : Kv enc w b t) {T E : TypeId} (hT : Try.prog.underlying T = some (.map 31 E)) {z : Value} (hz : (zeroValue E).run Try.prog w = .ok z w) {k : List UInt8} (hk : k.length = 32) :
    (Instr.lookup T (.map (some b)) (.agg (row8 k)) true).run Try.prog w = .ok (.tuple #[(getV t k).elim z enc, .bool (getV t k).isSome]) w ∧
      (Instr.lookup T (.map (some b)) (.agg (row8 k)) false).run Try.prog w = .ok ((getV t k).elim z enc) w := by
  obtain ⟨D, ho, ha⟩ := h
  obtain ⟨v, ps, hrun, hv⟩ := ho.look_ok (t := T) (e := E) idlaw hT hz (zd := .held z) (zp := []) rfl (id_key hk)
  obtain ⟨v2, ps2, hrun2, hv2⟩ := ho.lookup (t := T) (e := E) idlaw hT hz (zd := .held z) (zp := []) rfl (id_key hk)
  rw [ha.has] at hrun
  have hd : D.atKey (.string k) (.held z) = .held ((getV t k).elim z enc) := by
    rcases hg : getV t k with _ | y
    · have hno : Maps.has D (.string k) = false := by rw [ha.has, hg]; rfl
      exact atKey_of_not_has hno _
    · exact ha.at_ k y hg _
  unfold rvk at hv hv2
  simp only [Option.some.injEq, Prod.mk.injEq, hd, DataW.held.injEq] at hv hv2
  rw [hv.1] at hrun
  rw [hv2.1] at hrun2
  exact ⟨hrun, hrun2⟩
theorem Kv.len (h : Kv enc w b t) {T E : TypeId} (hT : Try.prog.underlying T = some (.map 31 E)) (ty : TypeId) : (Builtin.len_ #[T] ty #[.map (some b)]).run Try.prog w = .ok (.int .i64 (t.length : Int)) w := by
  obtain ⟨D, ho, ha⟩ := h
  rw [ho.len (e := E) (k := 31) hT ty, ha.size]
/-- A RANGE OVER IT UNDER WAY; which keys are still to come. -/
def Rgv (enc : V → Value) (w : World) (b r : Nat) (t : Tv V) (lf : List UInt8 → Bool) : Prop :=
  ∃ D left cnt n, w.ranges Try.prog 31 rvk b r n D left cnt ∧ AgrV enc D t ∧ (∀ k, left (.string k) = lf k)
theorem Rgv.kv (h : Rgv enc w b r t lf) : Kv enc w b t := by
  obtain ⟨D, left, cnt, n, hr, ha, _⟩ := h
  exact ⟨D, by rw [← ha.size]; exact ownsMap_exactk hr.owns, ha⟩
theorem Rgv.lt (h : Rgv enc w b r t lf) : r < w.heap.size := by
  obtain ⟨D, left, cnt, n, hr, ha, _⟩ := h
  exact hr.lt
theorem Rgv.ne (h : Rgv enc w b r t lf) : r ≠ b := by
  obtain ⟨D, left, cnt, n, hr, ha, _⟩ := h
  exact hr.ne
theorem Rgv.iter (h : Rgv enc w b r t lf) : ∃ a c d e, w.heap[r]? = some (.mapIter a c d e) := by
  obtain ⟨D, left, cnt, n, hr, ha, _⟩ := h
  obtain ⟨es, clock, since, seen, c0, _, _, _, _, h5, _⟩ := hr
  exact ⟨_, _, _, _, h5⟩
theorem Kv.isMap (h : Kv enc w b t) : ∃ es clock, w.heap[b]? = some (.map es clock) := by
  obtain ⟨D, ⟨es, clock, hb, _⟩, _⟩ := h
  exact ⟨es, clock, hb⟩
theorem Rgv.kept (h : Rgv enc w b r t lf) (hb : w'.heap[b]? = w.heap[b]?) (hr' : w'.heap[r]? = w.heap[r]?) : Rgv enc w' b r t lf ∧ w'.rangeLeft b r = w.rangeLeft b r := by
  obtain ⟨D, left, cnt, n, hr, ha, hl⟩ := h
  have h1 : w'.ranges Try.prog 31 rvk b r n D left cnt := by
    obtain ⟨es, clock, since, seen, c0, h1, h2, h3, h4, h5, rest⟩ := hr
    exact ⟨es, clock, since, seen, c0, hb.trans h1, h2, h3, h4, hr'.trans h5, rest⟩
  exact ⟨⟨D, left, cnt, n, h1, ha, hl⟩, by rw [h1.left_eq, hr.left_eq]⟩
theorem Rgv.below (h : Rgv enc w b r t lf) (hb : Below w.heap.size w w') : Rgv enc w' b r t lf ∧ w'.rangeLeft b r = w.rangeLeft b r :=
  h.kept (hb.block _ h.kv.lt) (hb.block _ h.lt)
/-- 'range m'. -/
theorem Kv.range (h : Kv enc w b t) {T E : TypeId} (hT : Try.prog.underlying T = some (.map 31 E)) :
    ∃ w', (Instr.range T (.map (some b))).run Try.prog w = .ok (.pointer (some ⟨w.heap.size, 0, none⟩)) w' ∧ Rgv enc w' b w.heap.size t (fun k => (getV t k).isSome) ∧ Below w.heap.size w w' ∧ w'.heap.size = w.heap.size + 1 := by
  obtain ⟨D, ho, ha⟩ := h
  obtain ⟨w', hrun, hr, hg, hs⟩ := ho.range (t := T) (e := E) idlaw hT
  exact ⟨w', hrun, ⟨D, _, _, _, hr, ha, fun k => ha.has k⟩, ⟨hg.os, hg.tape, hg.output, hg.size, fun i hi => hg.block i hi (by simp)⟩, hs⟩
/-- THE STEP. -/
theorem Rgv.next (h : Rgv enc w b r t lf) (ty : TypeId) :
    ((∀ k, lf k = false) ∧ (Instr.next (.pointer (some ⟨r, 0, none⟩)) false ty).run Try.prog w = .ok (.tuple #[.bool false]) w) ∨
    ∃ k v w', k.length = 32 ∧ lf k = true ∧ getV t k = some v ∧ (Instr.next (.pointer (some ⟨r, 0, none⟩)) false ty).run Try.prog w = .ok (.tuple #[.bool true, .agg (row8 k), enc v]) w' ∧
      Rgv enc w' b r t (fun x => lf x && decide (x ≠ k)) ∧ w'.rangeLeft b r < w.rangeLeft b r ∧ w.grownBy w' (some r) ∧ w'.heap.size = w.heap.size ∧ (Instr.entry (.pointer (some ⟨r, 0, none⟩))).run Try.prog w' = .ok (.tuple #[.agg (row8 k), enc v]) w' := by
  obtain ⟨D, left, cnt, n, hr, ha, hl⟩ := h
  rcases hr.next idlaw ty with ⟨h0, hlf, hrun⟩ | ⟨key, v, kl, y, w', cnt', hkey, hlk, hv, hat, hrun, hrg, hlt, hgr, hsz, hen⟩
  · exact .inl ⟨fun k => by rw [← hl, hlf], hrun⟩
  · obtain ⟨es, hD, _, hks⟩ := hr.owns.entries idlaw
    obtain ⟨es', hD', hko⟩ := hr.owns.keysOf
    have hhas : Maps.has D kl = true := has_true_of_atKey hat
    obtain ⟨k, rfl⟩ : ∃ k, kl = .string k := (Go.WideMaps.KeyLaw.str (deep_law_laid dd_laid (m := 2) (by omega) (of_decide_eq_true (by kernel_rfl)) (by kernel_rfl) (by kernel_rfl)) hkey)
    rw [ha.has] at hhas
    obtain ⟨x, hx⟩ := Option.isSome_iff_exists.1 hhas
    have hk32 := ha.key _ (getV_some hx)
    obtain rfl : key = .agg (row8 k) := idlaw.inj hkey (id_key hk32)
    have hvx : v = enc x := by
      have h1 := hat .nil
      rw [ha.at_ k x hx] at h1
      unfold rvk at hv
      simp only [Option.some.injEq] at hv
      rw [← hv] at h1
      simp only [DataW.held.injEq] at h1
      exact h1.symm
    subst hvx
    exact .inr ⟨k, x, w', hk32, by rw [← hl]; exact hlk, hx, hrun, ⟨D, _, cnt', n, hrg, ha, fun z => by
      rw [hl]
      by_cases e : z = k
      · subst e
        simp [Lit.sameKey]
      · simp [Lit.sameKey, e]⟩, by rw [hrg.left_eq, hr.left_eq]; exact hlt, hgr, hsz, hen⟩
/-- 'delete(m, k)' in the round. -/
theorem Rgv.drop (h : Rgv enc w b r t lf) {T E : TypeId} (hT : Try.prog.underlying T = some (.map 31 E)) {k : List UInt8} (hk : k.length = 32) (ty : TypeId) :
    ∃ w', (Builtin.delete_ #[T, 31] ty #[.map (some b), .agg (row8 k)]).run Try.prog w = .ok (.tuple #[]) w' ∧ Rgv enc w' b r (delV t k) (fun x => lf x && decide (x ≠ k)) ∧ w'.rangeLeft b r ≤ w.rangeLeft b r ∧ w.mapTurned w' b := by
  obtain ⟨D, left, cnt, n, hr, ha, hl⟩ := h
  obtain ⟨w', cnt', hrun, hr', hle, hm⟩ := hr.drop (t := T) (e := E) idlaw hT (id_key hk) ty
  exact ⟨w', hrun, ⟨_, _, _, _, hr', ha.del (hr.owns.tidy idlaw) k, fun z => by
      rw [hl]
      by_cases e : z = k
      · subst e
        simp [Lit.sameKey]
      · simp [Lit.sameKey, e]⟩, by rw [hr'.left_eq, hr.left_eq]; exact hle, hm⟩
theorem mapTurned_turnedk (h : w.mapTurned w' b) : Turned (fun q => q = b) w w' := Turned.of_gr h.grown fun _ e => (Option.some.inj e).symm
end
end Go.Proofs.Ytmmibldchfmleaa

/-! Dedup, pure: what an index's calls tell: packs dropped, packs counted. -/
namespace Go.Proofs.Ytmmibldchfmleaa
open Go.RowKit Codec

/-- A place: its pack, which blob. -/
abbrev Pl := List UInt8 × Int
section
variable {t : Tv Pl} {pk k : List UInt8} {lf : List UInt8 → Bool} {v : Pl}
/-- Drop. -/
def dropT (t : Tv Pl) (pk : List UInt8) : Tv Pl := t.filter fun e => decide (e.2.1 ≠ pk)
/-- While packs are dropped: lf says who is still to be looked at. -/
def dropL (t : Tv Pl) (pk : List UInt8) (lf : List UInt8 → Bool) : Tv Pl := t.filter fun e => decide (e.2.1 ≠ pk) || lf e.1
theorem dropL_start (ht : ∀ e ∈ t, lf e.1 = true) : dropL t pk lf = t := by
  unfold dropL
  exact List.filter_eq_self.2 fun e he => by simp [ht e he]
theorem dropL_end (hl : ∀ k, lf k = false) : dropL t pk lf = dropT t pk := by
  unfold dropL dropT
  exact List.filter_congr fun e _ => by simp [hl]
theorem dropL_at (hs : Sv t) (hg : getV (dropL t pk lf) k = some v) : ∀ e ∈ t, e.1 = k → e.2 = v := fun e he hk => by
  have h1 := getV_mem hs (List.mem_filter.1 (getV_some hg)).1
  have h2 := getV_mem hs he
  rw [hk] at h2
  exact Option.some.inj (h2.symm.trans h1)
/-- One that is in the pack is deleted. -/
theorem dropL_del (hs : Sv t) (hg : getV (dropL t pk lf) k = some v) (hv : v.1 = pk) : delV (dropL t pk lf) k = dropL t pk (fun x => lf x && decide (x ≠ k)) := by
  have ha := dropL_at hs hg
  unfold delV dropL
  rw [List.filter_filter]
  refine List.filter_congr fun e he => ?_
  by_cases hk : e.1 = k
  · have h2 := ha e he hk
    simp [hk, h2, hv]
  · simp [hk]
/-- One that is in another pack stays. -/
theorem dropL_stay (hs : Sv t) (hg : getV (dropL t pk lf) k = some v) (hv : v.1 ≠ pk) : dropL t pk lf = dropL t pk (fun x => lf x && decide (x ≠ k)) := by
  have ha := dropL_at hs hg
  unfold dropL
  refine List.filter_congr fun e he => ?_
  by_cases hk : e.1 = k
  · have h2 := ha e he hk
    simp [h2, hv]
  · simp [hk]
theorem dropT_len (t : Tv Pl) (pk : List UInt8) : (dropT t pk).length ≤ t.length := List.length_filter_le _ _
end
/-! ### packs -/
/-- How many of a list's objects are in a pack. -/
def cntP (t : Tv Pl) (pk : List UInt8) : Nat := t.countP fun e => decide (e.2.1 = pk)
def incV (h : Tv Nat) (pk : List UInt8) : Tv Nat := putV h pk ((getV h pk).getD 0 + 1)
/-- The packs, rising, and how many objects each one has. -/
def packT (t : Tv Pl) : Tv Nat := t.foldl (fun h e => incV h e.2.1) []
/-- THE TABLE HAS JUST THESE COUNTS. -/
def Cnt (t : Tv Pl) (h : Tv Nat) : Prop := Sv h ∧ ∀ pk, getV h pk = if cntP t pk = 0 then none else some (cntP t pk)
theorem Cnt.nil : Cnt [] [] := ⟨Sv.nil, fun pk => by simp [cntP, getV_nil]⟩
theorem Cnt.inc {t t' : Tv Pl} {h : Tv Nat} {pk : List UInt8} (hc : Cnt t h) (hn : ∀ x, cntP t' x = cntP t x + if x = pk then 1 else 0) : Cnt t' (incV h pk) := by
  refine ⟨hc.1.put _ _, fun x => ?_⟩
  unfold incV
  rw [getV_put, hn x]
  by_cases e : x = pk
  · subst e
    rw [if_pos rfl, if_pos rfl, if_neg (by omega), hc.2 x]
    by_cases h0 : cntP t x = 0 <;> simp [h0]
  · rw [if_neg e, if_neg e, hc.2 x, Nat.add_zero]
theorem cntP_snoc (t : Tv Pl) (e : List UInt8 × Pl) (x : List UInt8) : cntP (t ++ [e]) x = cntP t x + if x = e.2.1 then 1 else 0 := by
  unfold cntP
  rw [List.countP_append]
  by_cases h : e.2.1 = x
  · simp [h]
  · have h' : ¬ x = e.2.1 := fun e1 => h e1.symm
    simp [h, h']
theorem packT_cnt (t : Tv Pl) : Cnt t (packT t) := by
  suffices h : ∀ (l pre : Tv Pl) (acc : Tv Nat), Cnt pre acc → Cnt (pre ++ l) (l.foldl (fun h e => incV h e.2.1) acc) by
    simpa [packT] using h t [] [] Cnt.nil
  intro l
  induction l with
  | nil => intro pre acc h; simpa using h
  | cons e l ih =>
    intro pre acc h
    have h2 := ih (pre ++ [e]) (incV acc e.2.1) (h.inc fun x => cntP_snoc pre e x)
    simpa using h2
theorem Cnt.eq {t t' : Tv Pl} {h h' : Tv Nat} (hc : Cnt t h) (hc' : Cnt t' h') (hn : ∀ x, cntP t x = cntP t' x) : h = h' :=
  tv_ext hc.1 hc'.1 fun k => by rw [hc.2, hc'.2, hn]
/-- Those that have been looked at. -/
def seenT (t : Tv Pl) (lf : List UInt8 → Bool) : Tv Pl := t.filter fun e => !lf e.1
theorem seenT_start {t : Tv Pl} {lf : List UInt8 → Bool} (ht : ∀ e ∈ t, lf e.1 = true) : seenT t lf = [] := by
  unfold seenT
  exact List.filter_eq_nil_iff.2 fun e he => by simp [ht e he]
theorem seenT_end {t : Tv Pl} {lf : List UInt8 → Bool} (hl : ∀ k, lf k = false) : seenT t lf = t := by
  unfold seenT
  exact List.filter_eq_self.2 fun e _ => by simp [hl]
theorem cntP_seen : ∀ {t : Tv Pl} {lf : List UInt8 → Bool} {k : List UInt8} {v : Pl}, Sv t → getV t k = some v → lf k = true → ∀ x, cntP (seenT t (fun y => lf y && decide (y ≠ k))) x = cntP (seenT t lf) x + if x = v.1 then 1 else 0
  | [], _, _, _, _, h, _, _ => by simp [getV_nil] at h
  | e :: t, lf, k, v, hs, hg, hl, x => by
    obtain ⟨h1, h2⟩ := List.pairwise_cons.1 hs
    rw [getV_cons] at hg
    by_cases he : e.1 = k
    · rw [if_pos he] at hg
      have hv : e.2 = v := Option.some.inj hg
      have hno : ∀ y ∈ t, y.1 ≠ k := fun y hy e1 => klt_ne (h1 y hy) (he.trans e1.symm)
      have h3 : seenT t (fun y => lf y && decide (y ≠ k)) = seenT t lf := by
        unfold seenT
        exact List.filter_congr fun y hy => by simp [hno y hy]
      have h4 : seenT (e :: t) (fun y => lf y && decide (y ≠ k)) = e :: seenT t lf := by
        rw [← h3]
        unfold seenT
        rw [List.filter_cons_of_pos (by simp [he])]
      have h5 : seenT (e :: t) lf = seenT t lf := by
        unfold seenT
        rw [List.filter_cons_of_neg (by simp [he, hl])]
      rw [h4, h5]
      unfold cntP
      rw [List.countP_cons, hv]
      by_cases hx : v.1 = x
      · simp [hx]
      · have hx' : ¬ x = v.1 := fun e1 => hx e1.symm
        simp [hx, hx']
    · rw [if_neg he] at hg
      have ih := cntP_seen (lf := lf) h2 hg hl x
      have h4 : ∀ f : List UInt8 → Bool, seenT (e :: t) f = if f e.1 = true then seenT t f else e :: seenT t f := fun f => by
        unfold seenT
        by_cases hf : f e.1 = true
        · rw [List.filter_cons_of_neg (by simp [hf]), if_pos hf]
        · rw [List.filter_cons_of_pos (by simpa using hf), if_neg hf]
      rw [h4, h4]
      by_cases hf : lf e.1 = true
      · rw [if_pos (by simp [hf, he]), if_pos hf, ih]
      · rw [if_neg (by simp [hf]), if_neg hf]
        unfold cntP at ih ⊢
        rw [List.countP_cons, List.countP_cons, ih]
        omega
theorem packT_keys {t : Tv Pl} (ht : ∀ e ∈ t, e.2.1.length = 32) : ∀ p ∈ packT t, p.1.length = 32 := fun p hp => by
  have h1 := getV_mem (packT_cnt t).1 hp
  rw [(packT_cnt t).2] at h1
  have h0 : cntP t p.1 ≠ 0 := fun h => by rw [if_pos h] at h1; cases h1
  obtain ⟨e, he, h2⟩ := List.countP_pos_iff.1 (Nat.pos_of_ne_zero h0)
  rw [← of_decide_eq_true h2]
  exact ht e he
theorem packT_pos {t : Tv Pl} {p : List UInt8 × Nat} (hp : p ∈ packT t) : p.2 = cntP t p.1 ∧ 0 < p.2 := by
  have h1 := getV_mem (packT_cnt t).1 hp
  rw [(packT_cnt t).2] at h1
  by_cases h0 : cntP t p.1 = 0
  · rw [if_pos h0] at h1
    cases h1
  · rw [if_neg h0] at h1
    have h2 := Option.some.inj h1
    omega
theorem packT_len (t : Tv Pl) : (packT t).length ≤ t.length := by
  have hk : ((packT t).map (·.1)).Nodup := (packT_cnt t).1.nodup
  suffices h : ∀ (l : List (List UInt8)) (t : Tv Pl), l.Nodup → (∀ x ∈ l, 0 < cntP t x) → l.length ≤ t.length by
    have := h ((packT t).map (·.1)) t hk fun x hx => by
      obtain ⟨p, hp, rfl⟩ := List.mem_map.1 hx
      have := packT_pos hp
      omega
    simpa using this
  intro l
  induction l with
  | nil => intro t _ _; simp
  | cons x l ih =>
    intro t hn hc
    obtain ⟨hx, hn2⟩ := List.nodup_cons.1 hn
    have h1 := ih (t.filter fun e => decide (e.2.1 ≠ x)) hn2 fun y hy => by
      have hyx : y ≠ x := fun e => hx (e ▸ hy)
      have h2 := hc y (by simp [hy])
      unfold cntP at h2 ⊢
      rw [List.countP_filter]
      refine Nat.lt_of_lt_of_le h2 (List.countP_mono_left fun e _ he => ?_)
      have : e.2.1 = y := by simpa using he
      simp [this, hyx]
    have h2 := hc x (by simp)
    have h3 : (t.filter fun e => decide (e.2.1 ≠ x)).length + cntP t x = t.length := by
      unfold cntP
      rw [List.countP_eq_length_filter]
      clear ih hn hc h1 h2
      induction t with
      | nil => rfl
      | cons e t ih =>
        by_cases he : e.2.1 = x
        · rw [List.filter_cons_of_neg (by simp [he]), List.filter_cons_of_pos (by simp [he]), List.length_cons, List.length_cons]
          omega
        · rw [List.filter_cons_of_pos (by simp [he]), List.filter_cons_of_neg (by simp [he]), List.length_cons, List.length_cons]
          omega
    rw [List.length_cons]
    omega
end Go.Proofs.Ytmmibldchfmleaa

/-! Dedup: an index in memory. -/
namespace Go.Proofs.Ytmmibldchfmleaa
open Go.RowKit Go.Maps

def plC (v : Pl) : Array Value := (u8s v.1 ++ [Value.int .i64 v.2]).toArray
def encP (v : Pl) : Value := .agg (plC v)
def zPl : Pl := (List.replicate 32 0, 0)
theorem plC_size {v : Pl} (h : v.1.length = 32) : (plC v).size = 33 := by simp [plC, u8s_length, h]
theorem plC_one (v : Pl) : (plC v).all (·.oneCell') = true := by
  refine all_oneCell_toArray fun u hu => ?_
  rcases List.mem_append.1 hu with hu | hu
  · exact u8s_one _ u hu
  · simp only [List.mem_singleton] at hu
    rw [hu]
    rfl
theorem plC_n {v : Pl} (h : v.1.length = 32) : (plC v)[32]? = some (.int .i64 v.2) := by
  have hl : (u8s v.1).length = 32 := by rw [u8s_length, h]
  rw [plC, List.getElem?_toArray, List.getElem?_append_right (by omega), hl]
  rfl
theorem plC_pack {v : Pl} (h : v.1.length = 32) (j : Nat) (hj : j < 32) : (plC v)[j]? = (row8 v.1)[j]? := by
  have hl : (u8s v.1).length = 32 := by rw [u8s_length, h]
  rw [plC, row8, List.getElem?_toArray, List.getElem?_toArray, List.getElem?_append_left (by omega)]
theorem pl_info : (Try.prog.info? 37).map (·.size) = some 33 := by kernel_rfl
theorem zero_pl : ∀ W, (zeroValue 37).run Try.prog W = .ok (encP zPl) W := fun W => by unfold encP plC zPl u8s; kernel_rfl
theorem zPl_len : zPl.1.length = 32 := by simp [zPl]
/-- AN INDEX IN MEMORY: at p; its map in block b. -/
structure Ix (w : World) (p b : Nat) (t : Tv Pl) : Prop where
  box : w.heap[p]? = some (.cells #[.map (some b)] 66 (0, 0))
  map : Kv encP w b t
  val : ∀ e ∈ t, e.2.1.length = 32
section
variable {w w' : World} {p b : Nat} {t : Tv Pl}
theorem Ix.ne (h : Ix w p b t) : p ≠ b := by
  obtain ⟨es, clock, hb⟩ := h.map.isMap
  rintro rfl
  rw [h.box] at hb
  cases hb
theorem Ix.cell (h : Ix w p b t) : w.cell? ⟨p, 0, none⟩ = some (.map (some b)) := by
  rw [cell_of_cells h.box]
  rfl
theorem Ix.turned {T : Nat → Prop} (h : Ix w p b t) (ht : Turned T w w') (hp : ¬ T p) (hb : ¬ T b) : Ix w' p b t := ⟨(ht.block _ (lt_of_cells h.box) hp).trans h.box, h.map.turned ht hb, h.val⟩
theorem Ix.below (h : Ix w p b t) (hb : Below w.heap.size w w') : Ix w' p b t := ⟨(hb.block _ (lt_of_cells h.box)).trans h.box, h.map.below hb, h.val⟩
theorem Ix.at_val (h : Ix w p b t) {k : List UInt8} : ((getV t k).getD zPl).1.length = 32 := by
  rcases hg : getV t k with _ | v
  · exact zPl_len
  · exact h.val _ (getV_some hg)
end
set_option maxHeartbeats 2000000 in
/-- dedup.New. -/
theorem ixnew_any (w : World) : Calls Try.prog 9 #[] w fun e w' => ∃ p b, e = .returned (.pointer (some ⟨p, 0, none⟩)) ∧ Ix w' p b [] ∧ w.heap.size ≤ p ∧ w.heap.size ≤ b ∧ Below w.heap.size w w' := by
  have hmk : ∀ W, (Instr.makeMap 64 none).run Try.prog W = .ok (.map (some W.heap.size)) (W.alloc (.map #[] 0)) := fun W => rfl
  have hb : Below w.heap.size w ((w.alloc (.map #[] 0)).alloc (.cells #[.map (some w.heap.size)] 66)) := ((Below.refl _ _).alloc (Nat.le_refl _) _).alloc (by simp) _
  have hi : Ix ((w.alloc (.map #[] 0)).alloc (.cells #[.map (some w.heap.size)] 66)) (w.heap.size + 1) w.heap.size [] :=
    ⟨by have := heap_alloc_new (w.alloc (.map #[] 0)) (.cells #[.map (some w.heap.size)] 66); rw [World.size_alloc] at this; exact this,
     (made_kv encP w).below ((Below.refl _ _).alloc (Nat.le_refl _) _), fun e h => by cases h⟩
  have HH := Lib.hid (And.intro hb hi)
  clear hb hi
  go_enter Try.func9, Try.ntmps9
  go_wp2
  go_ret
  exact ⟨w.heap.size + 1, w.heap.size, by simp, HH.out.2, by omega, by omega, HH.out.1⟩
end Go.Proofs.Ytmmibldchfmleaa

/-! Steps of a plan that read or store a whole row of cells. -/
namespace Go.Proofs.Ytmmibldchfmleaa
open Go.RowKit

/-- One that reads a whole row. -/
theorem exec_load_st {P : Program} {E : Operand → Value} {o : Oper} {W : World} {t : TypeId} (ty : TypeId) (x : Operand) (ho : o.op = .load ty x) (g : Nat) (hx : E x = .pointer (some ⟨g, 0, none⟩)) (cells : Array Value) (f : Nat × Nat) (hg : W.heap[g]? = some (.cells cells t f)) (d : TypeDesc)
    (hu : P.underlying ty = some d) (hd : (match d with | .struct _ | .array _ _ => true | _ => false) = true) (hi : (P.info? ty).map (·.size) = some cells.size) : (execOp E o).run P W = .ok (.value (.agg cells)) W := by
  unfold execOp
  simp only [ho, hx, Instr.loadAt, Instr.sureAddr, Sem.run_bind, Sem.run_pure, Result.andThen_ok, run_loadVar_row W g t ty cells f d hg hu hd hi]
/-- The effect: a whole row is stored. -/
theorem eff_store_row {P : Program} {ops : Array Oper} {Q : Exit → Act → World → Prop} {i : Nat} {o : Oper} {K : Act → World → Prop} {a : Act} {w : World} (ho : ops.toList[i]? = some o) (hgd : o.guard = none) (ty : TypeId) (x y : Operand) (hop : o.op = .store ty x y)
    (g : Nat) (cells : Array Value) (hx : a.eval x = .pointer (some ⟨g, 0, none⟩)) (hy : a.eval y = .agg cells) (t : TypeId) (old : Array Value) (hg : w.heap[g]? = some (.cells old t (0, 0))) (hi : (P.info? ty).map (·.size) = some cells.size)
    (hold : old.size = cells.size) (h1 : cells.all (·.oneCell') = true) (h : K (a.put o.dst undef) (w.setRow g cells)) : wpOp P ops Q i K a w :=
  eff_step ho fun K' hK' => by
    rw [if_pos (by unfold Region.wanted; rw [hgd])]
    exact wp_store_row ty x y hop g cells hx hy t old hg hi hold h1 (hK' _ _ h)
/-- The effect: a slice of one is made. -/
theorem eff_lit1 {P : Program} {ops : Array Oper} {Q : Exit → Act → World → Prop} {i : Nat} {o : Oper} {K : Act → World → Prop} {a : Act} {w w' : World} (ho : ops.toList[i]? = some o) (hgd : o.guard = none) (t : TypeId) (x : Operand) (hop : o.op = .buildSlice t 1 #[(0, x)]) {u v' : Value} (hx : a.eval x = u)
    (hrun : (Instr.buildSlice t 1 #[(0, u)]).run P w = .ok v' w') (h : K (a.put o.dst v') w') : wpOp P ops Q i K a w :=
  eff_step ho fun K' hK' => by
    rw [if_pos (by unfold Region.wanted; rw [hgd])]
    unfold Oper.wp execOp
    simp only [hop, Sem.run_bind, Sem.run_pure, Result.andThen_ok, List.map_toArray, List.map_cons, List.map_nil, hx, hrun]
    exact hK' _ _ h
end Go.Proofs.Ytmmibldchfmleaa

/-! Files, pure: a path's names, whether it may be; trees. -/
namespace Go.Proofs.Ytmmibldchfmleaa
open Go.RowKit Codec

/-- What stands between slashes. -/
def spl : List UInt8 → List (List UInt8)
  | [] => [[]]
  | c :: t => if c = 47 then [] :: spl t else match spl t with
    | [] => [[c]]
    | h :: r => (c :: h) :: r
theorem spl_ne : ∀ l, spl l ≠ []
  | [] => by simp [spl]
  | c :: t => by
    unfold spl
    split
    · simp
    · split <;> simp
theorem spl_slash (t : List UInt8) : spl (47 :: t) = [] :: spl t := by simp [spl]
theorem spl_cons {c : UInt8} (h : c ≠ 47) {t : List UInt8} {x : List UInt8} {r : List (List UInt8)} (e : spl t = x :: r) : spl (c :: t) = (c :: x) :: r := by
  rw [spl, if_neg h, e]
theorem spl_none : ∀ {l : List UInt8}, 47 ∉ l → spl l = [l]
  | [], _ => rfl
  | c :: t, h => by
    simp only [List.mem_cons, not_or] at h
    exact spl_cons (fun e => h.1 e.symm) (spl_none h.2)
theorem spl_at : ∀ {a : List UInt8} (b : List UInt8), 47 ∉ a → spl (a ++ 47 :: b) = a :: spl b
  | [], b, _ => spl_slash b
  | c :: t, b, h => by
    simp only [List.mem_cons, not_or] at h
    exact spl_cons (fun e => h.1 e.symm) (spl_at b h.2)
theorem spl_app : ∀ (a b : List UInt8), spl (a ++ 47 :: b) = spl a ++ spl b
  | [], b => by simp [spl]
  | c :: t, b => by
    by_cases h : c = 47
    · subst h
      rw [List.cons_append, spl_slash, spl_slash, spl_app t b, List.cons_append]
    · obtain ⟨x, r, e⟩ := List.exists_cons_of_ne_nil (spl_ne t)
      rw [List.cons_append, spl_cons h (x := x) (r := r ++ spl b) (by rw [spl_app t b, e, List.cons_append]), spl_cons h e, List.cons_append]
/-- A slash's place. -/
theorem ixb_none : ∀ {l : List UInt8}, Lib.indexByte l 47 = -1 → 47 ∉ l
  | [], _ => by simp
  | c :: t, h => by
    unfold Lib.indexByte at h
    have hge := Lib.indexByte_ge t 47
    split at h
    · cases h
    · rename_i hc
      split at h
      · rename_i h2
        simp only [List.mem_cons, not_or]
        exact ⟨fun e => hc (by simp [e]), ixb_none (by simpa using h2)⟩
      · rename_i h2
        have h2' : ¬ Lib.indexByte t 47 = -1 := by simpa using h2
        omega
theorem ixb_some : ∀ {l : List UInt8} {k : Nat}, Lib.indexByte l 47 = (k : Int) → k < l.length ∧ 47 ∉ l.take k ∧ l = l.take k ++ 47 :: l.drop (k + 1)
  | [], k, h => by simp [Lib.indexByte] at h
  | c :: t, k, h => by
    unfold Lib.indexByte at h
    have hge := Lib.indexByte_ge t 47
    split at h
    · rename_i hc
      obtain rfl : k = 0 := by omega
      have hc' : c = 47 := by simpa using hc
      subst hc'
      simp
    · rename_i hc
      split at h
      · omega
      · rename_i h2
        have h2' : ¬ Lib.indexByte t 47 = -1 := by simpa using h2
        obtain ⟨j, rfl⟩ : ∃ j, k = j + 1 := ⟨k - 1, by omega⟩
        obtain ⟨h1, h2, h3⟩ := ixb_some (l := t) (k := j) (by omega)
        refine ⟨by simp; omega, ?_, ?_⟩
        · rw [List.take_succ_cons]
          simp only [List.mem_cons, not_or]
          exact ⟨fun e => hc (by simp [← e]), h2⟩
        · rw [List.take_succ_cons, List.drop_succ_cons, List.cons_append, ← h3]
theorem ixb_cases (l : List UInt8) : Lib.indexByte l 47 = -1 ∨ ∃ k : Nat, Lib.indexByte l 47 = (k : Int) := by
  have h := Lib.indexByte_ge l 47
  by_cases h1 : Lib.indexByte l 47 = -1
  · exact .inl h1
  · exact .inr ⟨(Lib.indexByte l 47).toNat, by omega⟩

/-! ### what may be -/
def nmOk (n : List UInt8) : Bool := decide (n ≠ []) && decide (n ≠ [46]) && decide (n ≠ [46, 46]) && n.all fun c => decide (32 ≤ c.toNat)
/-- MAY A PATH BE? -/
def pathOk (l : List UInt8) : Bool := decide (l.length ≤ 255) && (spl l).all nmOk
theorem pathOk_len {l : List UInt8} (h : pathOk l = true) : l.length ≤ 255 := by
  unfold pathOk at h
  simp only [Bool.and_eq_true, decide_eq_true_eq] at h
  exact h.1
theorem pathOk_app (a b : List UInt8) : pathOk (a ++ 47 :: b) = (pathOk a && pathOk b && decide (a.length + b.length < 255)) := by
  unfold pathOk
  rw [spl_app, List.all_append]
  by_cases h : a.length + b.length < 255
  · have h1 : a.length ≤ 255 := by omega
    have h2 : b.length ≤ 255 := by omega
    rw [decide_eq_true (show (a ++ 47 :: b).length ≤ 255 by simp; omega), decide_eq_true h, decide_eq_true h1, decide_eq_true h2]
    simp
  · rw [decide_eq_false (show ¬ (a ++ 47 :: b).length ≤ 255 by simp; omega), decide_eq_false h]
    simp

/-! ### trees -/
/-- What ends at a slash, or at the end. -/
def fr : List UInt8 → List (List UInt8)
  | [] => [[]]
  | c :: t => if c = 47 then [] :: (fr t).map (c :: ·) else (fr t).map (c :: ·)
theorem mem_fr : ∀ {p q : List UInt8}, q ∈ fr p ↔ q = p ∨ ∃ r, p = q ++ 47 :: r
  | [], q => by
    simp [fr]
  | c :: t, q => by
    unfold fr
    constructor
    · intro h
      have hh : (q = [] ∧ c = 47) ∨ ∃ y ∈ fr t, c :: y = q := by
        split at h
        · rename_i hc
          rcases List.mem_cons.1 h with h | h
          · exact .inl ⟨h, hc⟩
          · exact .inr (List.mem_map.1 h)
        · exact .inr (List.mem_map.1 h)
      rcases hh with ⟨rfl, rfl⟩ | ⟨y, hy, rfl⟩
      · exact .inr ⟨t, rfl⟩
      · rcases mem_fr.1 hy with rfl | ⟨r, rfl⟩
        · exact .inl rfl
        · exact .inr ⟨r, rfl⟩
    · rintro (rfl | ⟨r, h⟩)
      · have : c :: t ∈ (fr t).map (c :: ·) := List.mem_map.2 ⟨t, mem_fr.2 (.inl rfl), rfl⟩
        split
        · exact List.mem_cons_of_mem _ this
        · exact this
      · cases q with
        | nil =>
          simp only [List.nil_append, List.cons.injEq] at h
          rw [if_pos h.1]
          exact List.mem_cons_self
        | cons d q =>
          simp only [List.cons_append, List.cons.injEq] at h
          obtain ⟨rfl, h⟩ := h
          have : c :: q ∈ (fr t).map (c :: ·) := List.mem_map.2 ⟨q, mem_fr.2 (.inr ⟨r, h⟩), rfl⟩
          split
          · exact List.mem_cons_of_mem _ this
          · exact this
theorem fr_length : ∀ p, (fr p).length = (spl p).length
  | [] => rfl
  | c :: t => by
    by_cases h : c = 47
    · subst h
      simp [fr, spl, fr_length t]
    · obtain ⟨x, r, e⟩ := List.exists_cons_of_ne_nil (spl_ne t)
      rw [spl_cons h e, fr, if_neg h, List.length_map, fr_length t, e]
      rfl
/-- Where name k begins. -/
def atN (p : List UInt8) (k : Nat) : Nat := (((spl p).take k).map (·.length + 1)).sum
theorem fr_get : ∀ (p : List UInt8) (k : Nat) (x : List UInt8), (spl p)[k]? = some x → atN p k + x.length ≤ p.length ∧ (fr p)[k]? = some (p.take (atN p k + x.length))
  | [], k, x, h => by
    cases k with
    | zero =>
      obtain rfl : [] = x := by simpa [spl] using h
      simp [atN, fr]
    | succ k => simp [spl] at h
  | c :: t, k, x, h => by
    by_cases hc : c = 47
    · subst hc
      rw [spl_slash] at h
      cases k with
      | zero =>
        obtain rfl : [] = x := by simpa using h
        simp [atN, fr]
      | succ k =>
        rw [List.getElem?_cons_succ] at h
        obtain ⟨h1, h2⟩ := fr_get t k x h
        have ha : atN (47 :: t) (k + 1) = atN t k + 1 := by
          unfold atN
          rw [spl_slash, List.take_succ_cons]
          simp
          omega
        rw [ha]
        refine ⟨by simp; omega, ?_⟩
        rw [fr, if_pos rfl, List.getElem?_cons_succ, List.getElem?_map, h2, show atN t k + 1 + x.length = (atN t k + x.length) + 1 by omega, List.take_succ_cons]
        rfl
    · obtain ⟨y, r, e⟩ := List.exists_cons_of_ne_nil (spl_ne t)
      rw [spl_cons hc e] at h
      cases k with
      | zero =>
        obtain rfl : c :: y = x := by simpa using h
        obtain ⟨h1, h2⟩ := fr_get t 0 y (by rw [e]; rfl)
        have h0 : ∀ p, atN p 0 = 0 := fun p => by simp [atN]
        rw [h0] at h1 h2 ⊢
        rw [Nat.zero_add] at h1 h2 ⊢
        refine ⟨by simp; omega, ?_⟩
        rw [fr, if_neg hc, List.getElem?_map, h2, List.length_cons, List.take_succ_cons]
        rfl
      | succ k =>
        rw [List.getElem?_cons_succ] at h
        obtain ⟨h1, h2⟩ := fr_get t (k + 1) x (by rw [e]; exact h)
        have ha : atN (c :: t) (k + 1) = atN t (k + 1) + 1 := by
          unfold atN
          rw [spl_cons hc e, e, List.take_succ_cons, List.take_succ_cons]
          simp
          omega
        rw [ha]
        refine ⟨by simp; omega, ?_⟩
        rw [fr, if_neg hc, List.getElem?_map, h2, show atN t (k + 1) + 1 + x.length = (atN t (k + 1) + x.length) + 1 by omega, List.take_succ_cons]
        rfl
theorem atN_succ (p : List UInt8) (k : Nat) (x : List UInt8) (h : (spl p)[k]? = some x) : atN p (k + 1) = atN p k + x.length + 1 := by
  unfold atN
  rw [List.take_add_one, h]
  simp
  omega

/-- EACH PATH MAY BE, AND IS ABOVE THE ONE AHEAD. -/
def riseB : Tb → Bool
  | [] => true
  | x :: t => pathOk x.1 && (match t with | [] => true | y :: _ => decide (x.1 < y.1)) && riseB t
theorem rise_snoc : ∀ (l : Tb) (x : List UInt8 × List UInt8), riseB (l ++ [x]) = (riseB l && pathOk x.1 && (match l.getLast? with | none => true | some y => decide (y.1 < x.1)))
  | [], x => by simp [riseB]
  | [y], x => by
    simp only [List.cons_append, List.nil_append, riseB, List.getLast?_singleton]
    cases pathOk y.1 <;> cases pathOk x.1 <;> simp
  | y :: z :: l, x => by
    have ih := rise_snoc (z :: l) x
    rw [List.cons_append] at ih
    rw [List.cons_append, List.cons_append, riseB, ih, riseB, List.getLast?_cons_cons]
    cases pathOk y.1 <;> simp [Bool.and_assoc]
theorem rise_front : ∀ (a b : Tb), riseB (a ++ b) = true → riseB a = true
  | [], _, _ => rfl
  | [x], b, h => by
    cases b <;> simp_all [riseB]
  | x :: y :: a, b, h => by
    rw [List.cons_append, List.cons_append, riseB] at h
    simp only [Bool.and_eq_true] at h
    rw [riseB]
    simp only [Bool.and_eq_true]
    exact ⟨h.1, rise_front (y :: a) b h.2⟩
theorem rise_take {l : Tb} (h : riseB l = true) (k : Nat) : riseB (l.take k) = true := rise_front _ (l.drop k) (by rwa [List.take_append_drop])
def clashB (l : Tb) : Bool := (List.range l.length).any fun i => (fr (l[i]?.getD ([], [])).1).any fun q => (l.take i).any fun y => y.1 == q
def allF (l : Tb) : Nat := (l.map fun x => x.2.length).sum
def tooB (l : Tb) : Bool := decide (65536 < l.length) || l.any (fun x => decide (1048576 < x.2.length)) || decide (16777216 < allF l)
def chkE (l : Tb) : Int := if riseB l = false ∨ clashB l = true then 1 else if tooB l = true then 13 else 0
def filE (x : List UInt8 × List UInt8) : List UInt8 := put x.1.length ++ x.1 ++ (put x.2.length ++ x.2)
/-- A TREE's BYTES. -/
def filB (l : Tb) : List UInt8 := put l.length ++ (l.map filE).flatten
end Go.Proofs.Ytmmibldchfmleaa

/-! codec.Reader.Id. -/
namespace Go.Proofs.Ytmmibldchfmleaa
open Go.RowKit Codec

/-- The cells of the digest that is told. -/
def idL (l : List UInt8) (e : Int) : List UInt8 := if tkE l e 32 = 0 then l.take 32 else List.replicate 32 0
def idC (l : List UInt8) (e : Int) : Array Value := (u8s (idL l e)).toArray
theorem idL_length (l : List UInt8) (e : Int) : (idL l e).length = 32 := by
  unfold idL
  split
  · rename_i h
    obtain ⟨_, _, h1⟩ := tkE_zero h
    rw [List.length_take]
    have : (32 : Int).toNat = 32 := rfl
    omega
  · simp

theorem u8s_allc (l : List UInt8) : (u8s l).toArray.all (·.oneCell') = true := all_oneCell_toArray (u8s_one l)
theorem zeros32c : (u8s (List.replicate 32 0)).toArray = #[.int .u8 0, .int .u8 0, .int .u8 0, .int .u8 0, .int .u8 0, .int .u8 0, .int .u8 0, .int .u8 0, .int .u8 0, .int .u8 0, .int .u8 0, .int .u8 0, .int .u8 0, .int .u8 0, .int .u8 0, .int .u8 0,
    .int .u8 0, .int .u8 0, .int .u8 0, .int .u8 0, .int .u8 0, .int .u8 0, .int .u8 0, .int .u8 0, .int .u8 0, .int .u8 0, .int .u8 0, .int .u8 0, .int .u8 0, .int .u8 0, .int .u8 0, .int .u8 0] := by rfl
theorem gr_setRow {a w : World} {row : Option Nat} (h : a.grownBy w row) {g : Nat} (hg : a.heap.size ≤ g) (cs : Array Value) : a.grownBy (w.setRow g cs) row :=
  ⟨h.os, h.tape, h.output, by simpa [World.setRow] using h.size, fun i hi hne => by
    rw [← h.block i hi hne]
    simp only [World.setRow, Array.getElem?_modify]
    rw [if_neg (by omega)]⟩
theorem gr_of_alloc {w w1 : World} {o : Obj} {row : Option Nat} (h : (w.alloc o).grownBy w1 row) : w.grownBy w1 row := gr_trans (gr_alloc (gr_refl w row) o) h
theorem gr_row (w : World) (g : Nat) (cs : Array Value) : w.grownBy (w.setRow g cs) (some g) :=
  ⟨rfl, rfl, rfl, by simp [World.setRow], fun i hi hne => by
    simp only [World.setRow, Array.getElem?_modify]
    rw [if_neg (fun e => hne (by rw [e]))]⟩

theorem run_storeAt_row {P : Program} (w : World) (g : Nat) (ty : TypeId) (cells : List Value) (old : Array Value) {t : TypeId} (hg : w.heap[g]? = some (.cells old t (0, 0))) (hi : (P.info? ty).map (·.size) = some cells.toArray.size)
    (ho : old.size = cells.toArray.size) (h1 : cells.toArray.all (·.oneCell') = true) :
    (Instr.storeAt ty (.pointer (some ⟨g, 0, none⟩)) (.agg cells.toArray)).run P w = .ok () (w.setRow g cells.toArray) := by
  simp only [Instr.storeAt, Instr.sureAddr, Sem.run_bind, Sem.run_pure, Result.andThen_ok]
  exact run_storeVar_row w g t ty old cells.toArray hg hi ho h1

theorem run_arrayAt {P : Program} (w : World) (t : TypeId) (n : Nat) (e : TypeId) (hu : P.underlying t = some (.array n e)) (A : Option Addr) (len c : Nat) (hn : n ≤ len) :
    (Instr.arrayAt t (.slice A len c)).run P w = .ok (.pointer A) w := by
  simp [Instr.arrayAt, Sem.run_bind, run_underlying hu]
  omega

def Z32 : Array Value := (u8s (List.replicate 32 0)).toArray
theorem build_id : ∀ w, (Instr.build 31 #[]).run Try.prog w = .ok (.agg Z32) w := by
  intro w
  unfold Z32
  rw [zeros32c]
  kernel_rfl

/-- An operation 'T{}' of a struct or an array, its value by a closed fact. -/
theorem wpList_build0 {P : Program} {ops : Array Oper} {rest : List Oper} {op : Oper} {a : Act} {w : World} {Q : Exit → Act → World → Prop} (hgd : op.guard = none) (t : TypeId) (ho : op.op = .build t #[]) (v : Value)
    (hb : ∀ w, (Instr.build t #[]).run P w = .ok v w) (h : wpList P ops Q rest (a.put op.dst v) w) : wpList P ops Q (op :: rest) a w :=
  wpList_plain hgd fun _ hK => by
    unfold Oper.wp execOp
    simp only [ho, List.map_toArray, List.map_nil, hb, Sem.run_bind, Sem.run_pure, Result.andThen_ok]
    exact hK _ _ h

set_option maxHeartbeats 1000000 in
theorem id_any {w : World} {S : Nat → Prop} {p : Nat} {l : List UInt8} {e : Int} (h : Rd w S p l e) :
    Calls Try.prog 28 #[.pointer (some ⟨p, 0, none⟩)] w fun r w' => r = .returned (.agg (idC l e)) ∧ Rd w' S p (fxL l e 32) (tkE l e 32) ∧ w.grownBy w' (some p) := by
  have hnil := fun (w : World) (a : Option Addr) (n c : Nat) => Lib.run_eql_slice_nil (P := Try.prog) w 49 5 a n c 0 0 Try.underlying49
  have hlt := h.lt
  have h := h.mono (T := fun b => S b ∧ b < w.heap.size) fun b hb hs => ⟨hs, hb⟩
  unfold idC idL fxL
  by_cases hk : tkE l e 32 = 0
  · obtain ⟨rfl, _, h1⟩ := tkE_zero hk
    simp only [hk, if_true]
    clear hk
    go_enter Try.func28, Try.ntmps28
    go_wp2_with fail
    refine (take_ok (m := 32) (h.below ((Below.refl _ _).alloc (Nat.le_refl _) _)) (by simpa using h1)).mono ?_
    rintro _ w1 ⟨A, rfl, hR, hY, hb⟩
    obtain ⟨bb, off, rfl, _, _, hcell⟩ := hY.row (by omega)
    have hg1 := (hb.block w.heap.size (by simp) (by intro e; injection e; omega)).trans (heap_alloc_new w _)
    have hl32 : (l.take 32).length = 32 := hY.len
    have hrange : w1.rangeAt bb off (u8s (l.take 32)) := fun j v hj => by
      have := byt_news hY j v hj
      rwa [add_plain] at this
    have hi32 : (Try.prog.info? 31).map (·.size) = some (u8s (l.take 32)).length := by rw [u8s_length, hl32]; exact id_info
    have hsz : (u8s (l.take 32)).toArray.size = 32 := by simp [u8s_length, hl32]
    have hsa := run_arrayAt (P := Try.prog) w1 31 32 5 Try.underlying31 (some ⟨bb, off, none⟩) 32 32 (by omega)
    have hi33 : (Try.prog.info? 31).map (·.size) = some (u8s (l.take 32)).toArray.size := by rw [hsz]; exact id_info
    have HI := Lib.hid (And.intro hi32 hi33)
    have HR := Lib.hid hrange
    have HS := Lib.hid hsz
    have HY := Lib.hid hY
    clear hrange hcell hl32 hsz hY hi32 hi33
    go_wp2_with (first | (refine wpList_load_mid (by rfl) 31 (.tmp 10) (by rfl) bb off (by rfl) (u8s (l.take 32)) _ HR.out Try.underlying31 (by rfl) HI.out.1 ?_) | (refine wpList_store_row (by rfl) 31 (.tmp 2) (.tmp 11) (by rfl) w.heap.size (u8s (l.take 32)).toArray (by rfl) (by rfl) 31 _ hg1 HI.out.2 (by rw [HS.out]; rfl) (u8s_allc _) ?_))
    refine bodyPost_ret (results_cell_row rfl _ _ w.heap.size 31 (u8s (l.take 32)).toArray (0, 0) _ rfl (setRow_at hg1) Try.underlying31 rfl HI.out.2) rfl ⟨rfl, ?_, ?_⟩
    · exact (hR.grown (gr_row w1 w.heap.size _) (fun g hg hs => by injection hg with hg; have := hs.2; omega)).mono fun _ _ hs => hs.1
    · exact gr_setRow (gr_of_alloc hb) (Nat.le_refl _) _
  · simp only [hk, if_false]
    go_enter Try.func28, Try.ntmps28
    go_wp2_with fail
    refine (ctake_bad (h.below ((Below.refl _ _).alloc (Nat.le_refl _) _)) hk).mono ?_
    rintro _ w1 ⟨rfl, hR, hb⟩
    have hg1 := (hb.block w.heap.size (by simp) (by intro e; injection e; omega)).trans (heap_alloc_new w _)
    go_wp2_with (first | (refine wpList_build0 (by rfl) 31 (by rfl) (.agg Z32) build_id ?_) | (refine wpList_store_row (by rfl) 31 (.tmp 2) (.tmp 8) (by rfl) w.heap.size Z32 (by rfl) (by rfl) 31 _ hg1 (by unfold Z32; rw [zeros32c]; exact id_info) (by unfold Z32; rw [zeros32c]) (u8s_allc _) ?_))
    refine bodyPost_ret (results_cell_row rfl _ _ w.heap.size 31 Z32 (0, 0) _ rfl (setRow_at hg1) Try.underlying31 rfl (by unfold Z32; rw [zeros32c]; exact id_info)) rfl ⟨rfl, ?_, ?_⟩
    · exact (hR.grown (gr_row w1 w.heap.size _) (fun g hg hs => by injection hg with hg; have := hs.2; omega)).mono fun _ _ hs => hs.1
    · exact gr_setRow (gr_of_alloc hb) (Nat.le_refl _) _
end Go.Proofs.Ytmmibldchfmleaa

/-! Objects, pure: what may be, its bytes, and the object of bytes. -/
namespace Go.Proofs.Ytmmibldchfmleaa
open Go.RowKit Codec

/-- An entry: its name, whether it is a directory, its id. -/
abbrev En := List UInt8 × Bool × List UInt8
/-- AN OBJECT. -/
structure Ob where
  k : Nat
  b : List UInt8
  z : Nat
  ids : List (List UInt8)
  es : List En
  lb : List UInt8
def obZ : Ob := ⟨0, [], 0, [], [], []⟩
/-- Ids have 32 bytes, numbers their bits. -/
structure Ob.Wf (x : Ob) : Prop where
  k : x.k < 256
  z : x.z < 18446744073709551616
  ids : ∀ y ∈ x.ids, y.length = 32
  es : ∀ y ∈ x.es, y.2.2.length = 32
theorem obZ_wf : obZ.Wf := ⟨by decide, by decide, (fun _ h => by cases h), (fun _ h => by cases h)⟩
def Ob.none (x : Ob) : Bool := decide (x.b = []) && (decide (x.z = 0) && (decide (x.ids = []) && (decide (x.es = []) && decide (x.lb = []))))
/-- A name. -/
def nmE (l : List UInt8) : Bool := pathOk l && decide (47 ∉ l)
def okE (l : List En) (i : Nat) : Bool := match l[i]? with
  | .none => true
  | some y => nmE y.1 && (match i with
    | 0 => true
    | j + 1 => match l[j]? with
      | .none => true
      | some z => decide (z.1 < y.1))
def riseE (l : List En) : Bool := (List.range l.length).all (okE l)
theorem rise_all {l : List En} {n : Nat} (hn : l.length = n) (h : ∀ i, i < n → okE l i = true) : riseE l = true := by
  unfold riseE
  rw [List.all_eq_true]
  intro i hi
  exact h i (by rw [← hn]; exact List.mem_range.1 hi)
theorem rise_not {l : List En} {i : Nat} (hi : i < l.length) (h : okE l i = false) : riseE l = false := by
  unfold riseE
  rw [List.all_eq_false]
  exact ⟨i, List.mem_range.2 hi, by rw [h]; decide⟩
theorem rise_ok {l : List En} (h : riseE l = true) {i : Nat} (hi : i < l.length) : okE l i = true := by
  unfold riseE at h
  exact List.all_eq_true.1 h i (List.mem_range.2 hi)
theorem okE_nm {l : List En} {i : Nat} {y : En} (hy : l[i]? = some y) (h : okE l i = true) : nmE y.1 = true := by
  unfold okE at h
  rw [hy] at h
  simp only [Bool.and_eq_true] at h
  exact h.1
theorem okE_zero {l : List En} {y : En} (hy : l[0]? = some y) : okE l 0 = nmE y.1 := by
  unfold okE
  rw [hy]
  simp
theorem okE_succ {l : List En} {j : Nat} {y z : En} (hy : l[j + 1]? = some y) (hz : l[j]? = some z) : okE l (j + 1) = (nmE y.1 && decide (z.1 < y.1)) := by
  unfold okE
  rw [hy]
  simp only
  rw [hz]
theorem okE_bad {l : List En} {i : Nat} {y : En} (hy : l[i]? = some y) (h : nmE y.1 = false) : okE l i = false := by
  unfold okE
  rw [hy]
  simp [h]
theorem rise_len {l : List En} (h : riseE l = true) : ∀ y ∈ l, y.1.length ≤ 255 := fun y hy => by
  obtain ⟨i, hi, rfl⟩ := List.getElem_of_mem hy
  have h1 := okE_nm (List.getElem?_eq_getElem hi) (rise_ok h hi)
  unfold nmE at h1
  simp only [Bool.and_eq_true] at h1
  exact pathOk_len h1.1
/-- MAY IT BE? -/
def Ob.piece (x : Ob) : Bool := decide (x.b.length ≤ 32768) && { x with b := [] }.none
def Ob.list (x : Ob) : Bool := decide (x.ids.length ≤ 1000) && (decide (x.z ≤ 1048576) && (decide (x.ids.length = 0) == decide (x.z = 0))) && { x with ids := [], z := 0 }.none
def Ob.dir (x : Ob) : Bool := decide (x.es.length ≤ 500) && riseE x.es && { x with es := [] }.none
def Ob.snap (x : Ob) : Bool := decide (x.ids.length = 1) && decide (x.lb.length ≤ 255) && { x with z := 0, ids := [], lb := [] }.none
def mayO (x : Ob) : Bool := if x.k = 1 then x.piece else if x.k = 2 then x.list else if x.k = 3 then x.dir else if x.k = 4 then x.snap else false
def chkO (x : Ob) : Int := if mayO x = true then 0 else 1
theorem chk_may {x : Ob} (h : chkO x = 0) : mayO x = true := by
  unfold chkO at h
  split at h
  · assumption
  · cases h
theorem none_spec {x : Ob} (h : x.none = true) : x.b = [] ∧ x.z = 0 ∧ x.ids = [] ∧ x.es = [] ∧ x.lb = [] := by
  unfold Ob.none at h
  simpa using h
/-- What may be is one of four. -/
theorem may_cases {x : Ob} (h : mayO x = true) :
    (x.k = 1 ∧ x.b.length ≤ 32768 ∧ x.z = 0 ∧ x.ids = [] ∧ x.es = [] ∧ x.lb = []) ∨
    (x.k = 2 ∧ x.ids.length ≤ 1000 ∧ x.z ≤ 1048576 ∧ (x.ids.length = 0 ↔ x.z = 0) ∧ x.b = [] ∧ x.es = [] ∧ x.lb = []) ∨
    (x.k = 3 ∧ x.es.length ≤ 500 ∧ riseE x.es = true ∧ x.b = [] ∧ x.z = 0 ∧ x.ids = [] ∧ x.lb = []) ∨
    (x.k = 4 ∧ x.ids.length = 1 ∧ x.lb.length ≤ 255 ∧ x.b = [] ∧ x.es = []) := by
  unfold mayO at h
  split at h
  · rename_i hk
    unfold Ob.piece at h
    simp only [Bool.and_eq_true, decide_eq_true_eq] at h
    obtain ⟨_, h2, h3, h4, h5⟩ := none_spec h.2
    exact .inl ⟨hk, h.1, h2, h3, h4, h5⟩
  · split at h
    · rename_i hk
      unfold Ob.list at h
      simp only [Bool.and_eq_true, decide_eq_true_eq, beq_iff_eq, decide_eq_decide] at h
      obtain ⟨h1, _, _, h4, h5⟩ := none_spec h.2
      exact .inr (.inl ⟨hk, h.1.1, h.1.2.1, h.1.2.2, h1, h4, h5⟩)
    · split at h
      · rename_i hk
        unfold Ob.dir at h
        simp only [Bool.and_eq_true, decide_eq_true_eq] at h
        obtain ⟨h1, h2, h3, _, h5⟩ := none_spec h.2
        exact .inr (.inr (.inl ⟨hk, h.1.1, h.1.2, h1, h2, h3, h5⟩))
      · split at h
        · rename_i hk
          unfold Ob.snap at h
          simp only [Bool.and_eq_true, decide_eq_true_eq] at h
          obtain ⟨h1, _, _, h4, _⟩ := none_spec h.2
          exact .inr (.inr (.inr ⟨hk, h.1.1, h.1.2, h1, h4⟩))
        · cases h
theorem may_k {x : Ob} (h : mayO x = true) : 1 ≤ x.k ∧ x.k ≤ 4 := by
  rcases may_cases h with h | h | h | h <;> omega
/-- What it is bounded by. -/
structure Ob.Small (x : Ob) : Prop where
  b : x.b.length ≤ 32768
  ids : x.ids.length ≤ 1000
  es : x.es.length ≤ 500
  nm : ∀ y ∈ x.es, y.1.length ≤ 255
  lb : x.lb.length ≤ 255
theorem may_small {x : Ob} (h : mayO x = true) : x.Small := by
  rcases may_cases h with ⟨_, h1, h2, h3, h4, h5⟩ | ⟨_, h1, h2, h3, h4, h5, h6⟩ | ⟨_, h1, h2, h3, h4, h5, h6⟩ | ⟨_, h1, h2, h3, h4⟩
  · exact ⟨h1, by simp [h3], by simp [h4], by simp [h4], by simp [h5]⟩
  · exact ⟨by simp [h4], h1, by simp [h5], by simp [h5], by simp [h6]⟩
  · exact ⟨by simp [h3], by simp [h5], h1, rise_len h2, by simp [h6]⟩
  · exact ⟨by simp [h3], by omega, by simp [h4], by simp [h4], h2⟩

/-! ### its bytes -/
def yesB (b : Bool) : List UInt8 := if b then [1] else [0]
def enB (y : En) : List UInt8 := put y.1.length ++ y.1 ++ (yesB y.2.1 ++ y.2.2)
def ensB (l : List En) : List UInt8 := (l.map enB).flatten
def putO (x : Ob) : List UInt8 :=
  if x.k = 1 then put 1 ++ (put x.b.length ++ x.b)
  else if x.k = 2 then put 2 ++ put x.z ++ put x.ids.length ++ x.ids.flatten
  else if x.k = 3 then put 3 ++ put x.es.length ++ ensB x.es
  else put x.k ++ put x.z ++ x.ids.flatten ++ (put x.lb.length ++ x.lb)
/-- What Put tells. -/
def poB (x : Ob) : List UInt8 := if chkO x = 0 then putO x else []

/-! ### the object of bytes -/
def igo : Nat → List (List UInt8) → List UInt8 → Int → List (List UInt8) × List UInt8 × Int
  | 0, acc, l, e => (acc, l, e)
  | m + 1, acc, l, e => igo m (acc ++ [idL l e]) (fxL l e 32) (tkE l e 32)
def enN (l : List UInt8) (e : Int) : List UInt8 := byB l e 255
def enL1 (l : List UInt8) (e : Int) : List UInt8 := byL l e 255
def enE1 (l : List UInt8) (e : Int) : Int := byE l e 255
def enD (l : List UInt8) (e : Int) : Bool := boX (enL1 l e) (enE1 l e)
def enL2 (l : List UInt8) (e : Int) : List UInt8 := fxL (enL1 l e) (enE1 l e) 1
def enE2 (l : List UInt8) (e : Int) : Int := boE (enL1 l e) (enE1 l e)
def enI (l : List UInt8) (e : Int) : List UInt8 := idL (enL2 l e) (enE2 l e)
def enL3 (l : List UInt8) (e : Int) : List UInt8 := fxL (enL2 l e) (enE2 l e) 32
def enE3 (l : List UInt8) (e : Int) : Int := tkE (enL2 l e) (enE2 l e) 32
def ego : Nat → List En → List UInt8 → Int → List En × List UInt8 × Int
  | 0, acc, l, e => (acc, l, e)
  | m + 1, acc, l, e => ego m (acc ++ [(enN l e, enD l e, enI l e)]) (enL3 l e) (enE3 l e)
/-- What is read of bytes: the object, an error of reading's own, what is left, the reader's error. -/
def readO (l : List UInt8) : Ob × Int × List UInt8 × Int :=
  if uiE l 0 ≠ 0 then (obZ, uiE l 0, uiL l 0, uiE l 0)
  else if uiX l 0 < 1 ∨ 4 < uiX l 0 then (obZ, 11, uiL l 0, 0)
  else if uiX l 0 = 1 then ({ obZ with k := 1, b := byB (uiL l 0) 0 32768 }, 0, byL (uiL l 0) 0 32768, byE (uiL l 0) 0 32768)
  else if uiX l 0 = 2 then
    (if 1000 < uiX (uiL (uiL l 0) 0) (uiE (uiL l 0) 0) then ({ obZ with k := 2, z := uiX (uiL l 0) 0 }, 11, uiL (uiL (uiL l 0) 0) (uiE (uiL l 0) 0), uiE (uiL (uiL l 0) 0) (uiE (uiL l 0) 0))
     else let r := igo (uiX (uiL (uiL l 0) 0) (uiE (uiL l 0) 0)) [] (uiL (uiL (uiL l 0) 0) (uiE (uiL l 0) 0)) (uiE (uiL (uiL l 0) 0) (uiE (uiL l 0) 0))
      ({ obZ with k := 2, z := uiX (uiL l 0) 0, ids := r.1 }, 0, r.2.1, r.2.2))
  else if uiX l 0 = 3 then
    (if 500 < uiX (uiL l 0) 0 then ({ obZ with k := 3 }, 11, uiL (uiL l 0) 0, uiE (uiL l 0) 0)
     else let r := ego (uiX (uiL l 0) 0) [] (uiL (uiL l 0) 0) (uiE (uiL l 0) 0)
      ({ obZ with k := 3, es := r.1 }, 0, r.2.1, r.2.2))
  else
    let l1 := uiL (uiL l 0) 0
    let e1 := uiE (uiL l 0) 0
    ({ obZ with k := 4, z := uiX (uiL l 0) 0, ids := [idL l1 e1], lb := byB (fxL l1 e1 32) (tkE l1 e1 32) 255 }, 0, byL (fxL l1 e1 32) (tkE l1 e1 32) 255, byE (fxL l1 e1 32) (tkE l1 e1 32) 255)
def endO (r : Ob × Int × List UInt8 × Int) : Ob × Int :=
  if r.2.1 ≠ 0 then (obZ, r.2.1) else if endE r.2.2.1 r.2.2.2 ≠ 0 then (obZ, endE r.2.2.1 r.2.2.2) else if chkO r.1 ≠ 0 then (obZ, 11) else (r.1, 0)
/-- THE OBJECT OF BYTES. -/
def getO (b : List UInt8) : Ob × Int := endO (readO b)
/-- Are two the same? -/
def sameO (a b : Ob) : Bool := decide (a.k = b.k) && decide (a.b = b.b) && decide (a.z = b.z) && decide (a.lb = b.lb) && decide (a.ids = b.ids) && decide (a.es = b.es)
theorem same_iff {a b : Ob} : sameO a b = true ↔ a = b := by
  unfold sameO
  obtain ⟨a1, a2, a3, a4, a5, a6⟩ := a
  obtain ⟨b1, b2, b3, b4, b5, b6⟩ := b
  simp only [Bool.and_eq_true, decide_eq_true_eq, Ob.mk.injEq]
  constructor
  · rintro ⟨⟨⟨⟨⟨h1, h2⟩, h3⟩, h4⟩, h5⟩, h6⟩
    exact ⟨h1, h2, h3, h5, h6, h4⟩
  · rintro ⟨h1, h2, h3, h5, h6, h4⟩
    exact ⟨⟨⟨⟨⟨h1, h2⟩, h3⟩, h4⟩, h5⟩, h6⟩
theorem same_self (a : Ob) : sameO a a = true := same_iff.2 rfl
theorem sameO_comm (a b : Ob) : sameO a b = sameO b a := by
  rw [Bool.eq_iff_iff, same_iff, same_iff]
  exact eq_comm
end Go.Proofs.Ytmmibldchfmleaa
