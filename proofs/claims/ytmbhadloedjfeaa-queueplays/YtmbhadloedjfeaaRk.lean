/-
  Two pairs; steps that came in.
-/
import Derived.Test.YtmbhadloedjfeaaRj
import Derived.Deep.SlicePairs
import Derived.OpenShut
import Derived.SizedLaws
import Derived.Carry
namespace Go.Proofs
open Go.RowKit Go.Wi Go.Qu
structure Try.Po (w : World) (own : Nat → Prop) (pv : Option Addr) (m : Nat) : Prop where
  ex : pv = none ∨ ∃ p s, pv = some ⟨p, 0, none⟩ ∧ Try.Pr w own p s m
  lt : ∀ k, own k → k < w.heap.size
theorem Try.Po.keep {w w' : World} {own : Nat → Prop} {pv : Option Addr} {m m' : Nat} (h : Try.Po w own pv m) (hk : ∀ k, own k → w'.heap[k]? = w.heap[k]?) (hs : w.heap.size ≤ w'.heap.size) (hm : m ≤ m') : Try.Po w' own pv m' := by
  refine ⟨?_, fun k e => Nat.lt_of_lt_of_le (h.lt k e) hs⟩
  rcases h.ex with e | ⟨p, s, e, h1⟩
  · exact .inl e
  · exact .inr ⟨p, s, e, (h1.keep hk hs).mono hm⟩
theorem Try.made_any (size base most : Int) (w : World) :
    Calls Try.prog 5 #[.agg #[.int .i64 size, .int .i64 base, .int .i64 most]] w fun e w' => ∃ pv, e = .returned (.tuple #[.pointer pv, .bool true]) ∧ (∃ own, Try.Po w' own pv 0 ∧ ∀ k, own k → w.heap.size ≤ k) ∧ Below w.heap.size w w' := by
  by_cases h : 1 ≤ size ∧ size ≤ 1000 ∧ 1 ≤ base ∧ base ≤ 1000000000 ∧ base ≤ most ∧ most ≤ 1000000000
  · obtain ⟨a1, a2, a3, a4, a5, a6⟩ := h
    exact (Try.madeYes size base most a1 a2 a3 a5 a6 w).mono fun e w' ⟨p, e1, ⟨own, s, h1, h2⟩, h3⟩ => ⟨_, e1, ⟨own, ⟨.inr ⟨p, s, rfl, h1⟩, h1.lt⟩, h2⟩, h3⟩
  · exact (Try.madeNo size base most h w).mono fun e w' ⟨e1, h3⟩ => ⟨none, e1, ⟨fun _ => False, ⟨.inl rfl, fun k e => e.elim⟩, fun k e => e.elim⟩, h3⟩
/-- Two of them, in blocks of their own. -/
structure Try.P2 (B : Nat) (w : World) (pv qv : Option Addr) (m : Nat) : Prop where
  ex : ∃ o1 o2, Try.Po w o1 pv m ∧ Try.Po w o2 qv m ∧ (∀ k, o1 k → ¬ o2 k) ∧ (∀ k, o1 k → B ≤ k) ∧ ∀ k, o2 k → B ≤ k
  bs : B ≤ w.heap.size
theorem Try.P2.swap {B : Nat} {w : World} {pv qv : Option Addr} {m : Nat} (h : Try.P2 B w pv qv m) : Try.P2 B w qv pv m := by
  obtain ⟨o1, o2, h1, h2, h3, h4, h5⟩ := h.ex
  exact ⟨⟨o2, o1, h2, h1, fun k e1 e2 => h3 k e2 e1, h5, h4⟩, h.bs⟩
theorem Try.P2.mono {B : Nat} {w : World} {pv qv : Option Addr} {m : Nat} (h : Try.P2 B w pv qv m) : Try.P2 B w pv qv (m + 1) := by
  obtain ⟨o1, o2, h1, h2, h3, h4, h5⟩ := h.ex
  exact ⟨⟨o1, o2, h1.keep (fun _ _ => rfl) (Nat.le_refl _) (Nat.le_succ m), h2.keep (fun _ _ => rfl) (Nat.le_refl _) (Nat.le_succ m), h3, h4, h5⟩, h.bs⟩
theorem Try.P2.step {B : Nat} {w : World} {p : Nat} {qv : Option Addr} {m : Nat} (h : Try.P2 B w (some ⟨p, 0, none⟩) qv m) (hm : m ≤ 100000) (k h0 a0 b0 c0 : Int) (t : ByteArray) :
    Calls Try.prog 6 #[.pointer (some ⟨p, 0, none⟩), .agg (Qu.opC k h0 a0 b0 c0 t)] w fun e w' => e = .returned (.bool true) ∧ Try.P2 B w' (some ⟨p, 0, none⟩) qv (m + 1) ∧ Below B w w' := by
  obtain ⟨o1, o2, h1, h2, h3, h4, h5⟩ := h.ex
  rcases h1.ex with e | ⟨p', s, e, hp⟩
  · cases e
  cases e
  refine (Try.step_any hp hm k h0 a0 b0 c0 t).mono fun e w' ⟨e1, hc⟩ => ⟨e1, ?_, Wo.toBelow (Below.refl B w) hc.wo h4 h.bs⟩
  obtain ⟨own', s', g1, g2⟩ := hc.ex
  have hs := hc.wo.size
  have hb := h.bs
  refine ⟨⟨own', o2, ⟨.inr ⟨p, s', rfl, g1⟩, g1.lt⟩, h2.keep (fun k e => hc.wo.block k (h2.lt k e) (fun e1 => h3 k e1 e)) hs (Nat.le_succ m), fun k e1 e2 => ?_, fun k e => ?_, h5⟩, by omega⟩
  · have := h2.lt k e2
    rcases g2 k e1 with e3 | e3
    · exact h3 k e3 e2
    · omega
  · rcases g2 k e with e3 | e3
    · exact h4 k e3
    · omega
/-- A step that came in. -/
structure Qu.O where
  k : Int
  h : Int
  a : Int
  b : Int
  c : Int
  t : ByteArray
instance : Inhabited Qu.O := ⟨⟨0, 0, 0, 0, 0, ⟨#[]⟩⟩⟩
def Qu.oAt (w : World) (g o : Nat) (p : Qu.O) : Prop := w.cell? ⟨g, o, none⟩ = some (.int .i64 p.k) ∧ w.cell? ⟨g, o + 1, none⟩ = some (.int .i64 p.h) ∧ w.cell? ⟨g, o + 2, none⟩ = some (.int .i64 p.a) ∧ w.cell? ⟨g, o + 3, none⟩ = some (.int .i64 p.b) ∧ w.cell? ⟨g, o + 4, none⟩ = some (.int .i64 p.c) ∧ w.cell? ⟨g, o + 5, none⟩ = some (.string p.t)
structure Qu.Ops (w : World) (v : Value) (l : List Qu.O) : Prop where
  ex : ∃ a cap, v = .slice a l.length cap ∧ (l = [] ∨ ∃ g o, a = some ⟨g, o, none⟩ ∧ g < w.heap.size ∧ ∀ j (hj : j < l.length), Qu.oAt w g (o + j * 6) l[j])
  ib : ∀ p ∈ l, -9223372036854775808 ≤ p.h ∧ p.h ≤ 9223372036854775807
end Go.Proofs
