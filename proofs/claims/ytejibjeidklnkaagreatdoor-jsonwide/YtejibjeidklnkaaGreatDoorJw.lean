/-
  THE WORLDS of the reader: what the reader's block holds; what a call leaves as it was. Nothing of the program.
-/
import Derived.WalkKit
import Derived.Deep.QuietTactic
import Derived.BigQuiet
namespace Go.Jv
open Go.RowKit
/-- All blocks but one are as they were. -/
structure Wk (b : Nat) (w w' : World) : Prop where
  os : w'.os = w.os
  tape : w'.tape = w.tape
  output : w'.output = w.output
  size : w.heap.size ≤ w'.heap.size
  block : ∀ k, k < w.heap.size → k ≠ b → w'.heap[k]? = w.heap[k]?
theorem Wk.refl (b : Nat) (w : World) : Wk b w w := ⟨rfl, rfl, rfl, Nat.le_refl _, fun _ _ _ => rfl⟩
theorem Wk.trans {b : Nat} {w w1 w2 : World} (h : Wk b w w1) (g : Wk b w1 w2) : Wk b w w2 :=
  ⟨g.os.trans h.os, g.tape.trans h.tape, g.output.trans h.output, Nat.le_trans h.size g.size, fun k hk hb => (g.block k (Nat.lt_of_lt_of_le hk h.size) hb).trans (h.block k hk hb)⟩
theorem Wk.drewN {b : Nat} {w w' : World} (h : Wk b w w') (n : Nat) : Wk b w (w'.drewN n) := ⟨h.os, h.tape, h.output, h.size, h.block⟩
theorem Wk.drew {b : Nat} {w w' : World} (h : Wk b w w') : Wk b w w'.drew := ⟨h.os, h.tape, h.output, h.size, h.block⟩
theorem Wk.setCell {b : Nat} {w w' : World} (h : Wk b w w') (o : Nat) (e : Option Nat) (v : Value) : Wk b w (w'.setCell ⟨b, o, e⟩ v) :=
  ⟨h.os, h.tape, h.output, by simpa using h.size, fun k hk hb => (Below.heap_setCell w' ⟨b, o, e⟩ v k hb).trans (h.block k hk hb)⟩
theorem Wk.below {b B : Nat} {w w1 w2 : World} (h : Wk b w w1) (g : Below B w1 w2) (hB : w.heap.size ≤ B) : Wk b w w2 :=
  ⟨g.os.trans h.os, g.tape.trans h.tape, g.output.trans h.output, Nat.le_trans h.size g.size, fun k hk hb => (g.block k (Nat.lt_of_lt_of_le hk hB)).trans (h.block k hk hb)⟩
theorem Wk.cell {b : Nat} {w w' : World} (h : Wk b w w') {p : Addr} (hp : p.block < w.heap.size) (hb : p.block ≠ b) : w'.cell? p = w.cell? p := World.cell?_of_block (w := w) (h.block _ hp hb)
theorem Wk.frozen {b : Nat} {w w' : World} (h : Wk b w w') {p : Addr} (hp : p.block < w.heap.size) (hb : p.block ≠ b) : w'.frozen? p = w.frozen? p := World.frozen?_of_block (w := w) (h.block _ hp hb)
/-- Behind a new block of one's own, all that was there is as it was. -/
theorem Wk.toBelow {b : Nat} {w w1 w2 : World} (h : Below w.heap.size w w1) (g : Wk b w1 w2) (hb : w.heap.size ≤ b) : Below w.heap.size w w2 :=
  ⟨g.os.trans h.os, g.tape.trans h.tape, g.output.trans h.output, Nat.le_trans h.size g.size, fun k hk => (g.block k (Nat.lt_of_lt_of_le hk h.size) (by omega)).trans (h.block k hk)⟩
theorem Jv.belowN {B : Nat} {a w : World} (h : Below B a w) (n : Nat) : Below B a (w.drewN n) := ⟨h.os, h.tape, h.output, h.size, h.block⟩
/-- The reader's block. -/
structure Rd (w : World) (b : Nat) (t : ByteArray) (p o : Nat) : Prop where
  c0 : w.cell? ⟨b, 0, none⟩ = some (.string t)
  c1 : w.cell? ⟨b, 1, none⟩ = some (.int .i64 p)
  c2 : w.cell? ⟨b, 2, none⟩ = some (.int .i64 o)
  f0 : w.frozen? ⟨b, 0, none⟩ = false
  f1 : w.frozen? ⟨b, 1, none⟩ = false
  f2 : w.frozen? ⟨b, 2, none⟩ = false
  hb : b < w.heap.size
  hp : p ≤ t.size
  ht : t.size ≤ 4096
  ho : o ≤ 10
theorem Rd.drewN {w : World} {b : Nat} {t : ByteArray} {p o : Nat} (h : Rd w b t p o) (n : Nat) : Rd (w.drewN n) b t p o :=
  ⟨h.c0, h.c1, h.c2, h.f0, h.f1, h.f2, h.hb, h.hp, h.ht, h.ho⟩
theorem Rd.below {w w' : World} {b : Nat} {t : ByteArray} {p o : Nat} (h : Rd w b t p o) (g : Below w.heap.size w w') : Rd w' b t p o :=
  ⟨(g.cell h.hb).trans h.c0, (g.cell h.hb).trans h.c1, (g.cell h.hb).trans h.c2, (g.frozen h.hb).trans h.f0, (g.frozen h.hb).trans h.f1, (g.frozen h.hb).trans h.f2, Nat.lt_of_lt_of_le h.hb g.size, h.hp, h.ht, h.ho⟩
theorem Rd.atN {w : World} {b : Nat} {t : ByteArray} {p o : Nat} (h : Rd w b t p o) (n q : Nat) (v : Int) (hv : v = q) (hq : q ≤ t.size) : Rd ((w.drewN n).setCell ⟨b, 1, none⟩ (.int .i64 v)) b t q o := by
  subst hv
  have h := h.drewN n
  generalize w.drewN n = w at h
  have hs : ∀ x, (w.setCell ⟨b, 1, none⟩ (.int .i64 q)).frozen? x = w.frozen? x := fun x => by simp
  refine ⟨?_, ?_, ?_, (hs _).trans h.f0, (hs _).trans h.f1, (hs _).trans h.f2, by simpa using h.hb, hq, h.ht, h.ho⟩
  · rw [World.cell?_setCell_other _ _ _ _ (by simp)]; exact h.c0
  · exact World.cell?_setCell_same' _ _ _ (by rw [h.c1]; rfl)
  · rw [World.cell?_setCell_other _ _ _ _ (by simp)]; exact h.c2
theorem Rd.at0 {w : World} {b : Nat} {t : ByteArray} {p o : Nat} (h : Rd w b t p o) (q : Nat) (v : Int) (hv : v = q) (hq : q ≤ t.size) : Rd (w.setCell ⟨b, 1, none⟩ (.int .i64 v)) b t q o :=
  h.atN 0 q v hv hq
theorem Rd.openN {w : World} {b : Nat} {t : ByteArray} {p o : Nat} (h : Rd w b t p o) (n q : Nat) (v : Int) (hv : v = q) (hq : q ≤ 10) : Rd ((w.drewN n).setCell ⟨b, 2, none⟩ (.int .i64 v)) b t p q := by
  subst hv
  have h := h.drewN n
  generalize w.drewN n = w at h
  have hs : ∀ x, (w.setCell ⟨b, 2, none⟩ (.int .i64 q)).frozen? x = w.frozen? x := fun x => by simp
  refine ⟨?_, ?_, ?_, (hs _).trans h.f0, (hs _).trans h.f1, (hs _).trans h.f2, by simpa using h.hb, h.hp, h.ht, hq⟩
  · rw [World.cell?_setCell_other _ _ _ _ (by simp)]; exact h.c0
  · rw [World.cell?_setCell_other _ _ _ _ (by simp)]; exact h.c1
  · exact World.cell?_setCell_same' _ _ _ (by rw [h.c2]; rfl)
/-- What a panic of the reader bears. -/
def Bad (T : TypeId) (p e : Nat) (en : Ending) (w' : World) : Prop :=
  ∃ x : Nat, x < w'.heap.size ∧ en = .panicked [{ v := .iface T (.pointer (some ⟨x, 0, none⟩)), recovered := false }] ∧
    w'.cell? ⟨x, 0, none⟩ = some (.int .i64 p) ∧ w'.cell? ⟨x, 1, none⟩ = some (.int .i64 e)
end Go.Jv
