/-
  THE WORLDS of wire: what is as it was; bytes that lie somewhere.
-/
import Derived.Test.YtnfpocpeglfdbaaProg
import Derived.Test.YtnfpocpeglfdbaaVa
import Derived.WalkKit
import Derived.WalkLawsBesides
import Derived.WalkSpells
import Derived.Deep.QuietTactic
import Derived.Deep.MidRow
import Derived.Deep.AppendLies
import Derived.Deep.RegionLaw
import Derived.Laws.CopyOwn
import Derived.Laws.IdiomCopy
import Derived.Laws.BytesArg
import Derived.Laws.BitsAllLaws
import Derived.Lib.AppendStr
import Derived.Lib.RuneBytes
import Derived.Lib.ConvBytes
import Derived.BigQuiet
namespace Go.Wi
open Go.RowKit
/-- All blocks but some are as they were. -/
structure Wo (own : Nat → Prop) (w w' : World) : Prop where
  os : w'.os = w.os
  tape : w'.tape = w.tape
  output : w'.output = w.output
  size : w.heap.size ≤ w'.heap.size
  block : ∀ k, k < w.heap.size → ¬ own k → w'.heap[k]? = w.heap[k]?
theorem Wo.refl (own : Nat → Prop) (w : World) : Wo own w w := ⟨rfl, rfl, rfl, Nat.le_refl _, fun _ _ _ => rfl⟩
theorem Wo.trans {own : Nat → Prop} {w w1 w2 : World} (h : Wo own w w1) (g : Wo own w1 w2) : Wo own w w2 :=
  ⟨g.os.trans h.os, g.tape.trans h.tape, g.output.trans h.output, Nat.le_trans h.size g.size, fun k hk hb => (g.block k (Nat.lt_of_lt_of_le hk h.size) hb).trans (h.block k hk hb)⟩
/-- The second one may turn what the first one has made, too. -/
theorem Wo.step {own own1 : Nat → Prop} {w w1 w2 : World} (h : Wo own w w1) (ho : ∀ k, own1 k → own k ∨ w.heap.size ≤ k) (g : Wo own1 w1 w2) : Wo own w w2 :=
  ⟨g.os.trans h.os, g.tape.trans h.tape, g.output.trans h.output, Nat.le_trans h.size g.size, fun k hk hb => (g.block k (Nat.lt_of_lt_of_le hk h.size) (fun e => by rcases ho k e with e1 | e1; exact hb e1; omega)).trans (h.block k hk hb)⟩
theorem Wo.drewN {own : Nat → Prop} {w w' : World} (h : Wo own w w') (n : Nat) : Wo own w (w'.drewN n) := ⟨h.os, h.tape, h.output, h.size, h.block⟩
theorem Wo.drew {own : Nat → Prop} {w w' : World} (h : Wo own w w') : Wo own w w'.drew := ⟨h.os, h.tape, h.output, h.size, h.block⟩
theorem Wo.setCell {own : Nat → Prop} {w w' : World} (h : Wo own w w') (b o : Nat) (v : Value) (hb : own b ∨ w.heap.size ≤ b) : Wo own w (w'.setCell ⟨b, o, none⟩ v) :=
  ⟨h.os, h.tape, h.output, by simpa using h.size, fun k hk hk' => (Below.heap_setCell w' ⟨b, o, none⟩ v k (fun e => by subst e; rcases hb with hb | hb; exact hk' hb; exact absurd hk (by simp; omega))).trans (h.block k hk hk')⟩
theorem Wo.below {own : Nat → Prop} {B : Nat} {w w1 w2 : World} (h : Wo own w w1) (g : Below B w1 w2) (hB : w.heap.size ≤ B) : Wo own w w2 :=
  ⟨g.os.trans h.os, g.tape.trans h.tape, g.output.trans h.output, Nat.le_trans h.size g.size, fun k hk hb => (g.block k (Nat.lt_of_lt_of_le hk hB)).trans (h.block k hk hb)⟩
theorem Wo.alloc {own : Nat → Prop} {w w1 : World} (h : Wo own w w1) (o : Obj) : Wo own w (w1.alloc o) :=
  h.below ((Below.refl w1.heap.size w1).alloc (Nat.le_refl _) o) h.size
theorem Wo.mono {own own' : Nat → Prop} {w w1 : World} (h : Wo own w w1) (hm : ∀ k, own k → own' k) : Wo own' w w1 :=
  ⟨h.os, h.tape, h.output, h.size, fun k hk hb => h.block k hk fun h' => hb (hm k h')⟩
theorem Wo.ofBelow {own : Nat → Prop} {w w1 : World} (h : Below w.heap.size w w1) : Wo own w w1 := (Wo.refl own w).below h (Nat.le_refl _)
theorem Wo.toBelow {own : Nat → Prop} {B : Nat} {w w1 w2 : World} (h : Below B w w1) (g : Wo own w1 w2) (hB : ∀ k, own k → B ≤ k) (hs : B ≤ w1.heap.size) : Below B w w2 :=
  ⟨g.os.trans h.os, g.tape.trans h.tape, g.output.trans h.output, Nat.le_trans h.size g.size, fun k hk => (g.block k (by omega) (fun e => by have := hB k e; omega)).trans (h.block k hk)⟩
theorem Wo.grown {own : Nat → Prop} {w w1 w2 : World} {row : Option Nat} (h : Wo own w w1) (g : w1.grownBy w2 row) (hr : ∀ k, row = some k → own k ∨ w.heap.size ≤ k) : Wo own w w2 :=
  ⟨g.os.trans h.os, g.tape.trans h.tape, g.output.trans h.output, Nat.le_trans h.size g.size, fun k hk hb => (g.block k (Nat.lt_of_lt_of_le hk h.size) (fun e => by rcases hr k e.symm with e1 | e1; exact hb e1; omega)).trans (h.block k hk hb)⟩
theorem belowN {B : Nat} {a w : World} (h : Below B a w) (n : Nat) : Below B a (w.drewN n) := ⟨h.os, h.tape, h.output, h.size, h.block⟩
theorem block_lt {w : World} {k : Nat} {o : Obj} (h : w.heap[k]? = some o) : k < w.heap.size := (Array.getElem?_eq_some_iff.1 h).1
theorem byteCells_len (l : List UInt8) : (Lib.byteCells l).length = l.length := by simp [Lib.byteCells]
theorem byteCells_app (a b : List UInt8) : Lib.byteCells (a ++ b) = Lib.byteCells a ++ Lib.byteCells b := by simp [Lib.byteCells]
theorem byteCell {b : List UInt8} {k : Nat} (hk : k < b.length) : (Lib.byteCells b)[k]? = some (.int .u8 (b[k].toNat : Nat)) := by simp [Lib.byteCells, hk]
/-- Bytes that lie somewhere. -/
structure Bs (w : World) (v : Value) (b : List UInt8) : Prop where
  ex : ∃ ad cap, v = .slice ad b.length cap ∧ b.length ≤ cap ∧ (ad = none → cap = 0) ∧ (b = [] ∨ ∃ g o, ad = some ⟨g, o, none⟩ ∧ g < w.heap.size ∧ ∀ (j : Nat) (u : Value), (Lib.byteCells b)[j]? = some u → w.cell? ⟨g, o + j, none⟩ = some u)
theorem Bs.keep {w w' : World} {v : Value} {b : List UInt8} (h : Bs w v b) (hk : ∀ k, v.ownBlock = some k → w'.heap[k]? = w.heap[k]?) : Bs w' v b := by
  obtain ⟨ad, cap, rfl, hc, hn, h1⟩ := h.ex
  refine ⟨ad, cap, rfl, hc, hn, ?_⟩
  rcases h1 with h1 | ⟨g, o, rfl, hg, h1⟩
  · exact .inl h1
  · have e := hk g rfl
    refine .inr ⟨g, o, rfl, ?_, fun j u hu => (World.cell?_of_block (w := w) (a := ⟨g, o + j, none⟩) e).trans (h1 j u hu)⟩
    rw [Array.getElem?_eq_getElem hg] at e
    exact block_lt e
theorem Bs.below {w w' : World} {v : Value} {b : List UInt8} {B : Nat} (h : Bs w v b) (g : Below B w w') (hB : ∀ k, v.ownBlock = some k → k < B) : Bs w' v b :=
  h.keep fun k hk => g.block k (hB k hk)
theorem Bs.ofRow {w : World} {v : Value} {B n : Nat} {T : TypeId} {b : List UInt8} (h : w.ownsRow B T 1 v n (Lib.byteCells b)) : Bs w v b := by
  have hl := h.1
  rw [byteCells_len, Nat.mul_one] at hl
  subst hl
  rcases h.2 with ⟨rfl, h0⟩ | ⟨g, cap, cur, rfl, hB, hg, h1, h2, h3, h4⟩
  · exact ⟨none, 0, by rw [h0], by omega, fun _ => rfl, .inl (List.eq_nil_of_length_eq_zero h0)⟩
  · refine ⟨some ⟨g, 0, none⟩, cap, rfl, h1, (fun e => by cases e), .inr ⟨g, 0, rfl, block_lt hg, fun j u hu => ?_⟩⟩
    rw [← h4] at hu
    rw [cell_of_row _ _ _ _ _ _ hg]
    rw [List.getElem?_take] at hu
    split at hu
    · simpa using hu
    · cases hu
end Go.Wi
