/-
  A DISK IN MEMORY.
-/
import Derived.Test.YtbnokhaimcpggaaProg
import Derived.Test.YtbnokhaimcpggaaDm
import Derived.WalkKit
import Derived.WalkLawsBesides
import Derived.WalkSpells
import Derived.Deep.QuietTactic
import Derived.Deep.MidRow
import Derived.Deep.AppendLies
import Derived.Deep.RegionLaw
import Derived.Laws.CopyOwn
import Derived.Laws.IdiomCopy
import Derived.Laws.BytesArg
import Derived.Lib.RuneBytes
import Derived.BigQuiet
import Derived.Shelf.Spec.SlicesInsert
namespace Go.Proofs
open Go.RowKit Go.Dk
/-- All blocks but the disk's own are as they were. -/
structure Dk.Wo (own : Nat → Prop) (w w' : World) : Prop where
  os : w'.os = w.os
  tape : w'.tape = w.tape
  output : w'.output = w.output
  size : w.heap.size ≤ w'.heap.size
  block : ∀ k, k < w.heap.size → ¬ own k → w'.heap[k]? = w.heap[k]?
theorem Dk.Wo.refl (own : Nat → Prop) (w : World) : Wo own w w := ⟨rfl, rfl, rfl, Nat.le_refl _, fun _ _ _ => rfl⟩
theorem Dk.Wo.trans {own : Nat → Prop} {w w1 w2 : World} (h : Wo own w w1) (g : Wo own w1 w2) : Wo own w w2 :=
  ⟨g.os.trans h.os, g.tape.trans h.tape, g.output.trans h.output, Nat.le_trans h.size g.size, fun k hk hb => (g.block k (Nat.lt_of_lt_of_le hk h.size) hb).trans (h.block k hk hb)⟩
theorem Dk.Wo.drewN {own : Nat → Prop} {w w' : World} (h : Wo own w w') (n : Nat) : Wo own w (w'.drewN n) := ⟨h.os, h.tape, h.output, h.size, h.block⟩
theorem Dk.Wo.drew {own : Nat → Prop} {w w' : World} (h : Wo own w w') : Wo own w w'.drew := ⟨h.os, h.tape, h.output, h.size, h.block⟩
theorem Dk.Wo.setCell {own : Nat → Prop} {w w' : World} (h : Wo own w w') (b o : Nat) (v : Value) (hb : own b ∨ w.heap.size ≤ b) : Wo own w (w'.setCell ⟨b, o, none⟩ v) :=
  ⟨h.os, h.tape, h.output, by simpa using h.size, fun k hk hk' => (Below.heap_setCell w' ⟨b, o, none⟩ v k (fun e => by subst e; rcases hb with hb | hb; exact hk' hb; exact absurd hk (by simp; omega))).trans (h.block k hk hk')⟩
theorem Dk.setCells_same (b : Nat) : ∀ (vs : List Value) (o : Nat) (w : World), (w.setCells b o vs).os = w.os ∧ (w.setCells b o vs).tape = w.tape ∧ (w.setCells b o vs).output = w.output ∧ (w.setCells b o vs).heap.size = w.heap.size ∧ ∀ k, k ≠ b → (w.setCells b o vs).heap[k]? = w.heap[k]?
  | [], _, _ => ⟨rfl, rfl, rfl, rfl, fun _ _ => rfl⟩
  | v :: r, o, w => by
    obtain ⟨h1, h2, h3, h4, h5⟩ := Dk.setCells_same b r (o + 1) (w.setCell ⟨b, o, none⟩ v)
    exact ⟨h1, h2, h3, h4.trans (by simp), fun k hk => (h5 k hk).trans (Below.heap_setCell w ⟨b, o, none⟩ v k hk)⟩
theorem Dk.Wo.setCells {own : Nat → Prop} {w w' : World} (h : Wo own w w') (b o : Nat) (vs : List Value) (hb : own b ∨ w.heap.size ≤ b) : Wo own w (w'.setCells b o vs) := by
  obtain ⟨h1, h2, h3, h4, h5⟩ := Dk.setCells_same b vs o w'
  exact ⟨h1.trans h.os, h2.trans h.tape, h3.trans h.output, by rw [h4]; exact h.size, fun k hk hk' => (h5 k (fun e => by subst e; rcases hb with hb | hb; exact hk' hb; omega)).trans (h.block k hk hk')⟩
theorem Dk.Wo.below {own : Nat → Prop} {B : Nat} {w w1 w2 : World} (h : Wo own w w1) (g : Below B w1 w2) (hB : w.heap.size ≤ B) : Wo own w w2 :=
  ⟨g.os.trans h.os, g.tape.trans h.tape, g.output.trans h.output, Nat.le_trans h.size g.size, fun k hk hb => (g.block k (Nat.lt_of_lt_of_le hk hB)).trans (h.block k hk hb)⟩
theorem Dk.Wo.alloc {own : Nat → Prop} {w w1 : World} (h : Wo own w w1) (o : Obj) : Wo own w (w1.alloc o) :=
  h.below ((Below.refl w1.heap.size w1).alloc (Nat.le_refl _) o) h.size
theorem Dk.Wo.mono {own own' : Nat → Prop} {w w1 : World} (h : Wo own w w1) (hm : ∀ k, own k → own' k) : Wo own' w w1 :=
  ⟨h.os, h.tape, h.output, h.size, fun k hk hb => h.block k hk fun h' => hb (hm k h')⟩
/-- A row's cells, some of them set. -/
def Dk.splice (C : List Value) (o : Nat) (vs : List Value) : List Value := C.take o ++ vs ++ C.drop (o + vs.length)
theorem Dk.splice_len {C : List Value} {o : Nat} {vs : List Value} (h : o + vs.length ≤ C.length) : (Dk.splice C o vs).length = C.length := by
  simp only [Dk.splice, List.length_append, List.length_take, List.length_drop]; omega
theorem Dk.heap_setCells (b : Nat) (T : TypeId) : ∀ (vs : List Value) (o : Nat) (w : World) (C : List Value), w.heap[b]? = some (.cells C.toArray T (0, 0)) → o + vs.length ≤ C.length →
    (w.setCells b o vs).heap[b]? = some (.cells (Dk.splice C o vs).toArray T (0, 0))
  | [], o, w, C, h, _ => by simpa [World.setCells, Dk.splice] using h
  | v :: r, o, w, C, h, hl => by
    simp only [List.length_cons] at hl
    have h1 := heap_setCell_same w b o C.toArray T v h
    have h2 : C.toArray.setIfInBounds o v = (C.set o v).toArray := by simp
    rw [h2] at h1
    have := Dk.heap_setCells b T r (o + 1) (w.setCell ⟨b, o, none⟩ v) (C.set o v) h1 (by simp; omega)
    rw [World.setCells, this]
    have e : Dk.splice (C.set o v) (o + 1) r = Dk.splice C o (v :: r) := by
      unfold Dk.splice
      simp only [List.length_cons]
      rw [List.drop_set_of_lt (by omega), List.take_set, show o + 1 + r.length = o + (r.length + 1) by omega]
      congr 1
      rw [show (v :: r) = [v] ++ r from rfl, ← List.append_assoc]
      congr 1
      rw [List.set_eq_take_append_cons_drop, if_pos (by rw [List.length_take]; omega), List.take_take, Nat.min_eq_left (by omega), List.drop_of_length_le (by rw [List.length_take]; omega)]
    rw [e]
/-- One write's cells. -/
def Dk.wrC (p : Wr) : List Value := .int .i64 p.1 :: Lib.byteCells p.2
def Dk.wrCs (W : List Wr) : List Value := (W.map Dk.wrC).flatten
def Dk.lats (n : Nat) (W : List Wr) : List Nat := (List.range n).map (lat W)
def Dk.ints (T : List Nat) : List Value := T.map fun i => .int .i64 (i : Nat)
/-- The disk's own block. -/
def Dk.dsk (l t : Nat) (V : Value) (s : DS) : List Value :=
  [.slice (some ⟨l, 0, none⟩) s.n s.n, V, .slice (some ⟨t, 0, none⟩) s.n s.ct, .bool s.dead, .bool s.fset, .int .i64 s.fl, .int .i64 s.fk, .int .i64 s.ft, .int .i64 s.wrote, .int .i64 s.synced, .int .i64 s.falls]
/-- A disk in memory; of each block the number of its last write is T. -/
structure Try.Mem (w : World) (x l t : Nat) (V : Value) (s : DS) (T : List Nat) : Prop where
  hx : w.heap[x]? = some (.cells (Dk.dsk l t V s).toArray 65 (0, 0))
  hl : w.heap[l]? = some (.cells (Lib.byteCells s.L).toArray 68 (0, 0))
  ht : ∃ rest, w.heap[t]? = some (.cells (Dk.ints T ++ rest).toArray 3 (0, 0))
  hv : w.ownsRow 0 70 65 V s.W.length (Dk.wrCs s.W)
  xl : x ≠ l
  xt : x ≠ t
  lt : l ≠ t
  vx : ∀ k, V.ownBlock = some k → k ≠ x ∧ k ≠ l ∧ k ≠ t
  lL : s.L.length = 64 * s.n
  lT : T.length = s.n
  good : GoodW s.n s.W
  n0 : 0 < s.n
  n1 : s.n ≤ 4096
  w1 : s.W.length ≤ 1000000
  nct : s.n ≤ s.ct
/-- Whose blocks. -/
def Dk.foot (x l t : Nat) (V : Value) : Nat → Prop := fun k => k = x ∨ k = l ∨ k = t ∨ V.ownBlock = some k
theorem Dk.wrC_len {p : Wr} (h : p.2.length = 64) : (Dk.wrC p).length = 65 := by simp [Dk.wrC, Lib.byteCells, h]
theorem Dk.wrCs_len {n : Nat} {W : List Wr} (h : GoodW n W) : (Dk.wrCs W).length = W.length * 65 := by
  induction W with
  | nil => rfl
  | cons p r ih =>
    have := ih (fun q hq => h q (by simp [hq]))
    simp only [Dk.wrCs, List.map_cons, List.flatten_cons, List.length_append, List.length_cons] at this ⊢
    rw [this, Dk.wrC_len (h p (by simp)).2]; omega
theorem Dk.wrCs_drop {n : Nat} {W : List Wr} (h : GoodW n W) (k : Nat) : (Dk.wrCs W).drop (k * 65) = Dk.wrCs (W.drop k) := by
  induction W generalizing k with
  | nil => simp [Dk.wrCs]
  | cons p r ih =>
    cases k with
    | zero => simp
    | succ k =>
      have h1 := Dk.wrC_len (h p (by simp)).2
      have := ih (fun q hq => h q (by simp [hq])) k
      simp only [Dk.wrCs, List.map_cons, List.flatten_cons, List.drop_succ_cons] at this ⊢
      rw [← this, show (k + 1) * 65 = (Dk.wrC p).length + k * 65 by rw [h1]; omega, List.drop_append]
      simp
/-- The cells of the k-th write. -/
theorem Dk.wrCs_at {n : Nat} {W : List Wr} (h : GoodW n W) {k : Nat} {p : Wr} (hk : W[k]? = some p) (j : Nat) (hj : j < 65) : (Dk.wrCs W)[k * 65 + j]? = (Dk.wrC p)[j]? := by
  have h1 := Dk.wrCs_drop h k
  have h2 : W.drop k = p :: W.drop (k + 1) := by
    obtain ⟨hlt, e⟩ := List.getElem?_eq_some_iff.1 hk
    rw [List.drop_eq_getElem_cons hlt, e]
  rw [h2] at h1
  have h3 := congrArg (·[j]?) h1
  simp only [List.getElem?_drop] at h3
  rw [h3]
  have hp : p ∈ W := List.mem_of_getElem? hk
  simp only [Dk.wrCs, List.map_cons, List.flatten_cons]
  rw [List.getElem?_append_left (by rw [Dk.wrC_len (h p hp).2]; exact hj)]
theorem Dk.row_heap {w w' : World} {B : Nat} {e : TypeId} {size : Nat} {v : Value} {n : Nat} {xs : List Value} (h : w.ownsRow B e size v n xs) (hk : ∀ k, v.ownBlock = some k → w'.heap[k]? = w.heap[k]?) : w'.ownsRow B e size v n xs := by
  refine ⟨h.1, ?_⟩
  rcases h.2 with h1 | ⟨g, cap, cur, h1, h2, h3, h4⟩
  · exact .inl h1
  · exact .inr ⟨g, cap, cur, h1, h2, by rw [hk g (by rw [h1]; rfl)]; exact h3, h4⟩
theorem Try.Mem.keep {w w' : World} {x l t : Nat} {V : Value} {s : DS} {T : List Nat} (h : Try.Mem w x l t V s T) (hk : ∀ k, Dk.foot x l t V k → w'.heap[k]? = w.heap[k]?) : Try.Mem w' x l t V s T :=
  ⟨(hk x (.inl rfl)).trans h.hx, (hk l (.inr (.inl rfl))).trans h.hl, h.ht.imp fun _ e => (hk t (.inr (.inr (.inl rfl)))).trans e, Dk.row_heap h.hv fun k e => hk k (.inr (.inr (.inr e))), h.xl, h.xt, h.lt, h.vx, h.lL, h.lT, h.good, h.n0, h.n1, h.w1, h.nct⟩
theorem Try.Mem.eqv {w w' : World} {x l t : Nat} {V : Value} {s : DS} {T : List Nat} (h : Try.Mem w x l t V s T) (hk : w'.heap = w.heap) : Try.Mem w' x l t V s T := h.keep fun k _ => by rw [hk]
theorem Dk.Wo.eqv {own : Nat → Prop} {w w1 w2 : World} (h : Dk.Wo own w w1) (h1 : w2.heap = w1.heap) (h2 : w2.os = w1.os) (h3 : w2.tape = w1.tape) (h4 : w2.output = w1.output) : Dk.Wo own w w2 :=
  ⟨h2.trans h.os, h3.trans h.tape, h4.trans h.output, by rw [h1]; exact h.size, fun k hk hb => by rw [h1]; exact h.block k hk hb⟩
theorem Dk.block_lt {w : World} {k : Nat} {o : Obj} (h : w.heap[k]? = some o) : k < w.heap.size := (Array.getElem?_eq_some_iff.1 h).1
theorem Try.Mem.foot_lt {w : World} {x l t : Nat} {V : Value} {s : DS} {T : List Nat} (h : Try.Mem w x l t V s T) : ∀ k, Dk.foot x l t V k → k < w.heap.size := by
  rintro k (rfl | rfl | rfl | e)
  · exact Dk.block_lt h.hx
  · exact Dk.block_lt h.hl
  · obtain ⟨_, e⟩ := h.ht
    exact Dk.block_lt e
  · exact (h.hv.lt k e).2
theorem Dk.splice_put {L : List UInt8} {a : Nat} {bs : List UInt8} : Dk.splice (Lib.byteCells L) (a * 64) (Lib.byteCells bs) = Lib.byteCells (put L a bs) := by
  simp only [Dk.splice, put, Lib.byteCells, List.map_append, List.map_take, List.map_drop, List.length_map, Nat.mul_comm a 64]
theorem Dk.byteCells_len (L : List UInt8) : (Lib.byteCells L).length = L.length := by simp [Lib.byteCells]
theorem Try.Mem.setL {w : World} {x l t : Nat} {V : Value} {s : DS} {T : List Nat} (h : Try.Mem w x l t V s T) (a : Nat) (bs : List UInt8) (ha : 64 * a + bs.length ≤ 64 * s.n) : Try.Mem (w.setCells l (a * 64) (Lib.byteCells bs)) x l t V { s with L := put s.L a bs } T := by
  obtain ⟨-, -, -, -, h5⟩ := Dk.setCells_same l (Lib.byteCells bs) (a * 64) w
  have h1 := Dk.heap_setCells l 68 (Lib.byteCells bs) (a * 64) w _ h.hl (by rw [Dk.byteCells_len, Dk.byteCells_len, h.lL]; omega)
  rw [Dk.splice_put] at h1
  exact ⟨(h5 x h.xl).trans h.hx, h1, h.ht.imp fun _ e => (h5 t h.lt.symm).trans e, Dk.row_heap h.hv fun k e => h5 k (h.vx k e).2.1, h.xl, h.xt, h.lt, h.vx, by rw [length_put (by rw [h.lL]; exact ha)]; exact h.lL, h.lT, h.good, h.n0, h.n1, h.w1, h.nct⟩
/-- 'copy' of bytes. -/
theorem Try.copyB (W : World) (ty : TypeId) (b o dLen dc sb so sLen sc : Nat) (m : List UInt8) (hm : m.length = Nat.min sLen dLen) (hs : ∀ (j : Nat) (v : Value), (Lib.byteCells m)[j]? = some v → W.cell? ⟨sb, so + j, none⟩ = some v)
    (hd : ∀ j, j < m.length → (W.cell? ⟨b, o + j, none⟩).isSome = true) (hf : ∀ j, W.frozen? ⟨b, j, none⟩ = false) :
    (Builtin.copy_ #[22, 22] ty #[.slice (some ⟨b, o, none⟩) dLen dc, .slice (some ⟨sb, so, none⟩) sLen sc]).run Try.prog W = .ok (goInt (Lib.byteCells m).length) (W.setCells b o (Lib.byteCells m)) :=
  run_copy_cells W _ _ ty 5 b o dLen dc ⟨sb, so, none⟩ sLen sc (Lib.byteCells m) Try.underlying22 (by kernel_rfl) (by rw [Dk.byteCells_len]; exact hm)
    (fun j v hj => by rw [Addr.add_mid]; exact hs j v hj) (fun j hj => hd j (by rwa [Dk.byteCells_len] at hj)) (fun j _ => hf _) (fun v hv => by obtain ⟨u, _, rfl⟩ := List.mem_map.1 hv; rfl)
/-- The cells of the row of writes. -/
theorem Dk.wcell {w : World} {g c n : Nat} {T : TypeId} {W : List Wr} (hv : w.ownsRow 0 T 65 (.slice (some ⟨g, 0, none⟩) W.length c) W.length (Dk.wrCs W)) (hgd : GoodW n W) {k : Nat} {p : Wr} (hk : W[k]? = some p) (j : Nat) (hj : j < 65) : w.cell? ⟨g, k * 65 + j, none⟩ = (Dk.wrC p)[j]? := by
  have hlt := (List.getElem?_eq_some_iff.1 hk).1
  rcases hv.2 with ⟨e1, _⟩ | ⟨g', cap, cur, e1, hb, hg, hcap, hmax, hcs, htk⟩
  · cases e1
  · cases e1
    rw [cell_of_row _ _ _ _ _ _ hg, ← Array.getElem?_toList, ← Dk.wrCs_at hgd hk j hj, ← htk, List.getElem?_take, if_pos (by have := Nat.mul_le_mul_right 65 hlt; simp only [Nat.succ_mul] at this; omega)]
theorem Try.Mem.c0 {w : World} {x l t : Nat} {V : Value} {s : DS} {T : List Nat} (h : Try.Mem w x l t V s T) : ∀ j v, (Dk.dsk l t V s)[j]? = some v → w.cell? ⟨x, j, none⟩ = some v := fun j v hj => by
  rw [cell_of_row _ _ j _ _ _ h.hx]; simpa using hj
theorem Try.Mem.f0 {w : World} {x l t : Nat} {V : Value} {s : DS} {T : List Nat} (h : Try.Mem w x l t V s T) (j : Nat) : w.frozen? ⟨x, j, none⟩ = false := frozen_of_row _ _ _ _ _ h.hx
/-- One of the disk's own cells is set. -/
theorem Try.Mem.setX {w : World} {x l t : Nat} {V V' : Value} {s s' : DS} {T : List Nat} (h : Try.Mem w x l t V s T) (j : Nat) (v : Value) (hd : (Dk.dsk l t V s).set j v = Dk.dsk l t V' s') (hL : s'.L = s.L) (hn : s'.n = s.n)
    (hv : w.ownsRow 0 70 65 V' s'.W.length (Dk.wrCs s'.W)) (hvx : ∀ k, V'.ownBlock = some k → k ≠ x ∧ k ≠ l ∧ k ≠ t) (hg : GoodW s'.n s'.W) (hw : s'.W.length ≤ 1000000) (hj : j ≠ 2 := by decide) : Try.Mem (w.setCell ⟨x, j, none⟩ v) x l t V' s' T := by
  have hct : s'.ct = s.ct := by
    have e := congrArg (·[2]?) hd
    simp only [List.getElem?_set, if_neg hj] at e
    simp [Dk.dsk] at e
    exact e.2.symm
  have h1 := heap_setCell_same w x j _ _ v h.hx
  have h2 : (Dk.dsk l t V s).toArray.setIfInBounds j v = (Dk.dsk l t V' s').toArray := by rw [← hd]; simp
  rw [h2] at h1
  have h5 : ∀ k, k ≠ x → (w.setCell ⟨x, j, none⟩ v).heap[k]? = w.heap[k]? := fun k hk => Below.heap_setCell w ⟨x, j, none⟩ v k hk
  exact ⟨h1, by rw [h5 l h.xl.symm, hL]; exact h.hl, h.ht.imp fun _ e => (h5 t h.xt.symm).trans e, Dk.row_heap hv fun k e => h5 k (hvx k e).1, h.xl, h.xt, h.lt, hvx, by rw [hL, hn]; exact h.lL, by rw [hn]; exact h.lT, hg, by rw [hn]; exact h.n0, by rw [hn]; exact h.n1, hw, by rw [hn, hct]; exact h.nct⟩
/-- One of the plain ones. -/
theorem Try.Mem.setF {w : World} {x l t : Nat} {V : Value} {s s' : DS} {T : List Nat} (h : Try.Mem w x l t V s T) (j : Nat) (v : Value) (hd : (Dk.dsk l t V s).set j v = Dk.dsk l t V s') (hL : s'.L = s.L) (hn : s'.n = s.n) (hW : s'.W = s.W) (hj : j ≠ 2 := by decide) : Try.Mem (w.setCell ⟨x, j, none⟩ v) x l t V s' T :=
  h.setX j v hd hL hn (by rw [hW]; exact h.hv) h.vx (by rw [hn, hW]; exact h.good) (by rw [hW]; exact h.w1) hj
/-- One of the numbers of last writes. -/
theorem Try.Mem.setT {w : World} {x l t : Nat} {V : Value} {s : DS} {T : List Nat} (h : Try.Mem w x l t V s T) (j v : Nat) (hj : j < s.n) : Try.Mem (w.setCell ⟨t, j, none⟩ (.int .i64 v)) x l t V s (T.set j v) := by
  obtain ⟨r, e⟩ := h.ht
  have h1 := heap_setCell_same w t j _ _ (.int .i64 v) e
  have hl : j < (Dk.ints T).length := by simp only [Dk.ints, List.length_map]; rw [h.lT]; exact hj
  have h2 : (Dk.ints T ++ r).toArray.setIfInBounds j (.int .i64 v) = (Dk.ints (T.set j v) ++ r).toArray := by
    simp only [List.setIfInBounds_toArray]
    rw [List.set_append_left _ _ hl]
    simp [Dk.ints, List.map_set]
  rw [h2] at h1
  have h5 : ∀ k, k ≠ t → (w.setCell ⟨t, j, none⟩ (.int .i64 v)).heap[k]? = w.heap[k]? := fun k hk => Below.heap_setCell w ⟨t, j, none⟩ _ k hk
  exact ⟨(h5 x h.xt).trans h.hx, (h5 l h.lt).trans h.hl, ⟨r, h1⟩, Dk.row_heap h.hv fun k e => h5 k (h.vx k e).2.2, h.xl, h.xt, h.lt, h.vx, h.lL, by rw [List.length_set]; exact h.lT, h.good, h.n0, h.n1, h.w1, h.nct⟩
theorem Try.Mem.tcell {w : World} {x l t : Nat} {V : Value} {s : DS} {T : List Nat} (h : Try.Mem w x l t V s T) {i : Nat} (hi : i < s.n) : w.cell? ⟨t, i, none⟩ = some (.int .i64 (T.getD i 0 : Nat)) ∧ w.frozen? ⟨t, i, none⟩ = false := by
  obtain ⟨r, e⟩ := h.ht
  refine ⟨?_, frozen_of_row _ _ _ _ _ e⟩
  have hl : i < T.length := by rw [h.lT]; exact hi
  rw [cell_of_row _ _ _ _ _ _ e, List.getElem?_toArray, List.getElem?_append_left (by simp only [Dk.ints, List.length_map]; exact hl)]
  simp [Dk.ints, List.getElem?_eq_getElem hl]
/-- Writes that are forgotten. -/
def Dk.wipe (T : List Nat) (W : List Wr) : List Nat := W.foldl (fun T p => T.set p.1 0) T
theorem Dk.wipe_one (T : List Nat) (W : List Wr) (p : Wr) : Dk.wipe T (W ++ [p]) = (Dk.wipe T W).set p.1 0 := by simp [Dk.wipe]
theorem Dk.wipe_len (T : List Nat) (W : List Wr) : (Dk.wipe T W).length = T.length := by
  induction W generalizing T with
  | nil => rfl
  | cons p r ih => simp only [Dk.wipe, List.foldl_cons] at ih ⊢; rw [ih]; simp
theorem Dk.wipe_all : ∀ (W : List Wr) (T : List Nat), (∀ i, i < T.length → T[i]? = some 0 ∨ ∃ p ∈ W, p.1 = i) → Dk.wipe T W = List.replicate T.length 0
  | [], T, h => by
    apply List.ext_getElem?
    intro i
    by_cases hi : i < T.length
    · rcases h i hi with h1 | ⟨p, hp, _⟩
      · rw [Dk.wipe, List.foldl_nil, h1, List.getElem?_replicate, if_pos hi]
      · cases hp
    · rw [Dk.wipe, List.foldl_nil, List.getElem?_eq_none (by omega), List.getElem?_replicate, if_neg hi]
  | p :: r, T, h => by
    have := Dk.wipe_all r (T.set p.1 0) (fun i hi => by
      rw [List.length_set] at hi
      by_cases hp : p.1 = i
      · left; rw [List.getElem?_set, if_pos hp, if_pos (by omega)]
      · rcases h i hi with h1 | ⟨q, hq, e⟩
        · left; rw [List.getElem?_set, if_neg hp]; exact h1
        · right
          rcases List.mem_cons.1 hq with rfl | hq
          · exact absurd e hp
          · exact ⟨q, hq, e⟩)
    rw [List.length_set] at this
    simp only [Dk.wipe, List.foldl_cons] at this ⊢
    exact this
theorem Dk.wipe_lats (n : Nat) (W : List Wr) : Dk.wipe (Dk.lats n W) W = Dk.lats n [] := by
  rw [Dk.wipe_all W _ (fun i hi => ?_)]
  · apply List.ext_getElem (by simp [Dk.lats])
    intro i h1 h2
    simp [Dk.lats, lat]
  · have hi' : i < n := by simpa [Dk.lats] using hi
    by_cases hp : ∃ p ∈ W, p.1 = i
    · exact .inr hp
    · left
      have h0 := lat_other W i (fun p hp' e => hp ⟨p, hp', e⟩)
      simp [Dk.lats, hi', h0]
theorem Dk.lats_one (n : Nat) (W : List Wr) (p : Wr) : (Dk.lats n W).set p.1 (W.length + 1) = Dk.lats n (W ++ [p]) := by
  apply List.ext_getElem (by simp [Dk.lats])
  intro i h1 h2
  simp [Dk.lats, lat_one, List.getElem_set]
end Go.Proofs
