/-
  CALLS ON ONE OF TWO DISKS; puts that came in.
-/
import Derived.Test.YtjidghhgoofhlaaDn
namespace Go.Proofs
open Go.RowKit Go.Dk
theorem Try.One.two {B : Nat} {w0 w1 w2 : World} {a b : Nat} {sa sb : DS} (h : Try.One B w0 w1 a sa) (g : Try.One w1.heap.size w1 w2 b sb) : Try.Two B w0 w2 a b sa sb := by
  have ha := h.below g.bel
  obtain ⟨oa, h1, h2⟩ := h.ex
  obtain ⟨ob, g1, g2⟩ := g.ex
  have hle := h.le
  exact ⟨⟨oa, ob, h1.keep (fun k e => g.bel.block k (h1.lt k e)) g.bel.size, g1, fun k e f => by have := h1.lt k e; have := g2 k f; omega, h2, fun k f => by have := g2 k f; omega⟩, ha.bel, ha.le⟩
theorem Try.Two.write {B : Nat} {w0 w : World} {a b : Nat} {sa sb : DS} (h : Try.Two B w0 w a b sa sb) (hd : sa.dead = false) (hw1 : sa.W.length < 1000000) (hbl : sa.fset = false ∨ 0 < sa.fl) (hwr : sa.wrote < 1000000000) (hfl : sa.fl < 1000000000) (hfl0 : 0 ≤ sa.fl) (i : Nat) (hi : i < sa.n) (c : List UInt8) (hb : c.length ≤ 64) (v : Value) (hv : Dk.Src w v c) :
    Calls Try.prog 9 #[.pointer (some ⟨a, 0, none⟩), .int .i64 i, v] w fun e w' => e = .returned (.int .i64 0) ∧ Try.Two B w0 w' a b (sa.put i c) sb :=
  h.step (R := fun e => e = .returned (.int .i64 0)) fun _l _t _V hm => (Try.write_ok hm rfl hd hw1 hbl hwr hfl hfl0 i hi c hb v hv).mono fun _ _ ⟨r1, V', r2, r3, r4⟩ => ⟨r1, V', r2, r3, r4⟩
theorem Try.Two.writeB {B : Nat} {w0 w : World} {a b : Nat} {sa sb : DS} (h : Try.Two B w0 w a b sa sb) (hd : sa.dead = false) (hw1 : sa.W.length < 1000000) (hfs : sa.fset = true) (hfl : sa.fl ≤ 0) (hf : sa.falls < 1000000000) (i : Nat) (hi : i < sa.n) (c : List UInt8) (hb : c.length ≤ 64) (v : Value) (hv : Dk.Src w v c) :
    Calls Try.prog 9 #[.pointer (some ⟨a, 0, none⟩), .int .i64 i, v] w fun e w' => e = .returned (.int .i64 41) ∧ Try.Two B w0 w' a b ((sa.lay i c).fail sa.fk sa.ft) sb :=
  h.step (R := fun e => e = .returned (.int .i64 41)) fun l t V hm => (Try.write_blow hm rfl hd hw1 hfs hfl hf i hi c hb v hv).mono fun _ _ ⟨r1, r2, r3⟩ => ⟨r1, _, r2, r3, fun k e => by cases e⟩
theorem Try.Two.sync {B : Nat} {w0 w : World} {a b : Nat} {sa sb : DS} (h : Try.Two B w0 w a b sa sb) (hd : sa.dead = false) (hbl : sa.fset = false ∨ 0 < sa.fl) (hy : sa.synced < 1000000000) :
    Calls Try.prog 8 #[.pointer (some ⟨a, 0, none⟩)] w fun e w' => e = .returned (.int .i64 0) ∧ Try.Two B w0 w' a b sa.sync sb :=
  h.step (R := fun e => e = .returned (.int .i64 0)) fun _l _t _V hm => (Try.sync_ok hm rfl hd hbl hy).mono fun _ _ ⟨r1, r2, r3⟩ => ⟨r1, Try.left_nil rfl r2 r3⟩
theorem Try.Two.syncB {B : Nat} {w0 w : World} {a b : Nat} {sa sb : DS} (h : Try.Two B w0 w a b sa sb) (hd : sa.dead = false) (hfs : sa.fset = true) (hfl : sa.fl ≤ 0) (hf : sa.falls < 1000000000) :
    Calls Try.prog 8 #[.pointer (some ⟨a, 0, none⟩)] w fun e w' => e = .returned (.int .i64 41) ∧ Try.Two B w0 w' a b (sa.fail sa.fk sa.ft) sb :=
  h.step (R := fun e => e = .returned (.int .i64 41)) fun _l _t _V hm => (Try.sync_blow hm rfl hf hd hfs hfl).mono fun _ _ ⟨r1, r2, r3⟩ => ⟨r1, Try.left_nil rfl r2 r3⟩
theorem Try.Two.crash {B : Nat} {w0 w : World} {a b : Nat} {sa sb : DS} (h : Try.Two B w0 w a b sa sb) (hd : sa.dead = false) (hf : sa.falls < 1000000000) (k c : Int) :
    Calls Try.prog 12 #[.pointer (some ⟨a, 0, none⟩), .agg #[.int .i64 k, .int .i64 c]] w fun e w' => e = .returned (.int .i64 0) ∧ Try.Two B w0 w' a b (sa.fail k c) sb :=
  h.step (R := fun e => e = .returned (.int .i64 0)) fun _l _t _V hm => (Try.crash_any hm rfl hf hd k c).mono fun _ _ ⟨r1, r2, r3⟩ => ⟨r1, Try.left_nil rfl r2 r3⟩
theorem Try.Two.restart {B : Nat} {w0 w : World} {a b : Nat} {sa sb : DS} (h : Try.Two B w0 w a b sa sb) :
    Calls Try.prog 15 #[.pointer (some ⟨a, 0, none⟩)] w fun e w' => (∃ v, e = .returned v) ∧ Try.Two B w0 w' a b sa.restart sb :=
  h.step (R := fun e => ∃ v, e = .returned v) fun _l _t V hm => (Try.restart_any hm).mono fun _ _ ⟨r1, r2, r3⟩ => ⟨r1, V, r2, r3.mono fun _k e => .inl e, fun _k e => .inl e⟩
theorem Try.Two.fuse {B : Nat} {w0 w : World} {a b : Nat} {sa sb : DS} (h : Try.Two B w0 w a b sa sb) (hd : sa.dead = false) (n k c : Int) (hn : 0 ≤ n) :
    Calls Try.prog 17 #[.pointer (some ⟨a, 0, none⟩), .int .i64 n, .agg #[.int .i64 k, .int .i64 c]] w fun e w' => e = .returned (.int .i64 0) ∧ Try.Two B w0 w' a b { sa with fset := true, fl := n, fk := k, ft := c } sb :=
  h.step (R := fun e => e = .returned (.int .i64 0)) fun _l _t V hm => (Try.fuse_ok hm hd n k c hn).mono fun _ _ ⟨r1, r2, r3⟩ => ⟨r1, V, r2, r3.mono fun _k e => .inl e, fun _k e => .inl e⟩
theorem Try.Two.read {B : Nat} {w0 w : World} {a b : Nat} {sa sb : DS} (h : Try.Two B w0 w a b sa sb) (hd : sa.dead = false) (i : Nat) (hi : i < sa.n) :
    Calls Try.prog 13 #[.pointer (some ⟨a, 0, none⟩), .int .i64 i] w fun e w' => e = .returned (.tuple #[.slice (some ⟨w.heap.size, 0, none⟩) 64 64, .int .i64 0]) ∧ w'.heap[w.heap.size]? = some (.cells (Lib.byteCells (blk sa.view i)).toArray 5 (0, 0)) ∧ Below w.heap.size w w' :=
  h.reads fun _l _t _V hm => Try.read_ok hm rfl hd i hi
theorem Try.Two.readDead {B : Nat} {w0 w : World} {a b : Nat} {sa sb : DS} (h : Try.Two B w0 w a b sa sb) (hd : sa.dead = true) (i : Int) :
    Calls Try.prog 13 #[.pointer (some ⟨a, 0, none⟩), .int .i64 i] w fun e w' => e = .returned (.tuple #[.slice none 0 0, .int .i64 41]) ∧ w' = w :=
  h.reads fun _l _t _V hm => Try.read_dead hm hd i
theorem Try.Two.alive {B : Nat} {w0 w : World} {a b : Nat} {sa sb : DS} (h : Try.Two B w0 w a b sa sb) :
    Calls Try.prog 14 #[.pointer (some ⟨a, 0, none⟩)] w fun e w' => e = .returned (.bool (!sa.dead)) ∧ w' = w :=
  h.reads fun _l _t _V hm => Try.alive_any hm
theorem Try.Two.falls {B : Nat} {w0 w : World} {a b : Nat} {sa sb : DS} (h : Try.Two B w0 w a b sa sb) :
    Calls Try.prog 18 #[.pointer (some ⟨a, 0, none⟩)] w fun e w' => e = .returned (.int .i64 sa.falls) ∧ w' = w :=
  h.reads fun _l _t _V hm => Try.falls_any hm
theorem Try.Two.drew {B : Nat} {w0 w : World} {a b : Nat} {sa sb : DS} (h : Try.Two B w0 w a b sa sb) : Try.Two B w0 w.drew a b sa sb := h.below ((Below.refl w.heap.size w).drew)
/-- Puts that came in. -/
structure Dk.Puts (w : World) (v : Value) (l : List Pt) : Prop where
  ex : ∃ ad cap, v = .slice ad l.length cap ∧ l.length ≤ cap ∧ (l = [] ∨ ∃ pb po, ad = some ⟨pb, po, none⟩ ∧ pb < w.heap.size ∧ ∀ (j : Nat) (p : Pt), l[j]? = some p → w.cell? ⟨pb, po + j * 4, none⟩ = some (.int .i64 p.I) ∧ w.cell? ⟨pb, po + j * 4 + 1, none⟩ = some (.int .i64 p.N) ∧ w.cell? ⟨pb, po + j * 4 + 2, none⟩ = some (.int .i64 p.C) ∧ w.cell? ⟨pb, po + j * 4 + 3, none⟩ = some (.bool p.S))
  ok : ∀ p ∈ l, Dk.I64 p.I ∧ Dk.I64 p.N ∧ Dk.I64 p.C
theorem Dk.Puts.below {w w' : World} {v : Value} {l : List Pt} {B : Nat} (h : Dk.Puts w v l) (g : Below B w w') (hB : w.heap.size ≤ B) : Dk.Puts w' v l := by
  obtain ⟨ad, cap, e, hc, h1⟩ := h.ex
  refine ⟨⟨ad, cap, e, hc, ?_⟩, h.ok⟩
  rcases h1 with h1 | ⟨pb, po, e1, h2, h3⟩
  · exact .inl h1
  · have hb : w'.heap[pb]? = w.heap[pb]? := g.block pb (by omega)
    refine .inr ⟨pb, po, e1, Nat.lt_of_lt_of_le h2 g.size, fun j p hj => ?_⟩
    obtain ⟨a1, a2, a3, a4⟩ := h3 j p hj
    exact ⟨(World.cell?_of_block (a := ⟨pb, po + j * 4, none⟩) hb).trans a1, (World.cell?_of_block (a := ⟨pb, po + j * 4 + 1, none⟩) hb).trans a2, (World.cell?_of_block (a := ⟨pb, po + j * 4 + 2, none⟩) hb).trans a3, (World.cell?_of_block (a := ⟨pb, po + j * 4 + 3, none⟩) hb).trans a4⟩
theorem Dk.Puts.take {w : World} {ad : Option Addr} {n cap : Nat} {l : List Pt} (h : Dk.Puts w (.slice ad n cap) l) (k : Nat) (hk : k ≤ l.length) : Dk.Puts w (.slice ad k cap) (l.take k) := by
  obtain ⟨ad', cap', e, hc, h1⟩ := h.ex
  cases e
  have hlk : (l.take k).length = k := by rw [List.length_take]; omega
  refine ⟨⟨ad, cap, by rw [hlk], by omega, ?_⟩, fun p hp => h.ok p (List.mem_of_mem_take hp)⟩
  rcases h1 with h1 | ⟨pb, po, e1, h2, h3⟩
  · subst h1; exact .inl (by simp)
  · exact .inr ⟨pb, po, e1, h2, fun j p hj => h3 j p (by
      rw [List.getElem?_take] at hj
      split at hj
      · exact hj
      · cases hj)⟩
end Go.Proofs
