/-
  FEED: two hubs beside each other.
-/
import Derived.Test.YtdhgpkacilcfgaaGreatDoorFfA
namespace Go.Proofs
open Go.RowKit Go.Wi Go.Fd Go.Sort
/-- Two hubs, in blocks of their own, above a floor. -/
structure Tryz.H2 (B : Nat) (w : World) (h1 h2 n1 n2 : Nat) (F1 F2 : ByteArray → Option Sh) : Prop where
  ex : ∃ own1 p1 mb1 own2 p2 mb2, Tryz.Hb w own1 p1 h1 mb1 n1 F1 ∧ Tryz.Hb w own2 p2 h2 mb2 n2 F2 ∧ (∀ k, Fd.All own1 h1 mb1 k → ¬ Fd.All own2 h2 mb2 k) ∧ (∀ k, Fd.All own1 h1 mb1 k → B ≤ k) ∧ ∀ k, Fd.All own2 h2 mb2 k → B ≤ k
  fl : B ≤ w.heap.size
theorem Tryz.H2.swap {B h1 h2 n1 n2 : Nat} {w : World} {F1 F2 : ByteArray → Option Sh} (h : Tryz.H2 B w h1 h2 n1 n2 F1 F2) : Tryz.H2 B w h2 h1 n2 n1 F2 F1 := by
  obtain ⟨own1, p1, mb1, own2, p2, mb2, k1, k2, k3, k4, k5⟩ := h.ex
  exact ⟨⟨own2, p2, mb2, own1, p1, mb1, k2, k1, fun k e e' => k3 k e' e, k5, k4⟩, h.fl⟩
theorem Tryz.H2.past {B h1 h2 n1 n2 : Nat} {w w' : World} {F1 F2 : ByteArray → Option Sh} (h : Tryz.H2 B w h1 h2 n1 n2 F1 F2) (g : Below w.heap.size w w') : Tryz.H2 B w' h1 h2 n1 n2 F1 F2 := by
  obtain ⟨own1, p1, mb1, own2, p2, mb2, k1, k2, k3⟩ := h.ex
  exact ⟨⟨own1, p1, mb1, own2, p2, mb2, k1.below g (Nat.le_refl _), k2.below g (Nat.le_refl _), k3⟩, Nat.le_trans h.fl g.size⟩
theorem Tryz.H2.put {B h1 h2 n1 n2 : Nat} {w : World} {F1 F2 : ByteArray → Option Sh} (h : Tryz.H2 B w h1 h2 n1 n2 F1 F2) (u : ByteArray) (hu : u.size ≤ maxLen) (hn : n1 < 1000000) {V : Value} {l : List Cn} (hl : Cs w V l) (hV : ∀ k, V.ownBlock = some k → k < w.heap.size) (hll : l.length ≤ 4398046511104) :
    Calls Tryz.prog 7 #[.pointer (some ⟨h1, 0, none⟩), .string u, V] w fun e w' => e = .returned (.tuple #[]) ∧ Tryz.H2 B w' h1 h2 (n1 + 1) n2 (putF F1 u (sheet l)) F2 ∧ Below B w w' := by
  obtain ⟨own1, p1, mb1, own2, p2, mb2, k1, k2, k3, k4, k5⟩ := h.ex
  refine (Tryz.put_any k1 u hu hn hl hV hll).mono ?_
  rintro e w' ⟨rfl, own', p', hH, hw, ho⟩
  have hall : ∀ k, Fd.All own' h1 mb1 k → Fd.All own1 h1 mb1 k ∨ w.heap.size ≤ k := by
    intro k e
    rcases e with rfl | rfl | ⟨y, e⟩
    · exact .inl (.inl rfl)
    · exact .inl (.inr (.inl rfl))
    · rcases ho y k e with e | e
      · exact .inl (.inr (.inr ⟨y, e⟩))
      · exact .inr e
  refine ⟨rfl, ⟨⟨own', p', mb1, own2, p2, mb2, hH, k2.keep (fun k e => hw.block k (k2.lt k e) fun e' => k3 k e' e) hw.size, fun k e e' => ?_, fun k e => ?_, k5⟩, Nat.le_trans h.fl hw.size⟩, hw.toBelow (Below.refl _ w) k4 h.fl⟩
  · rcases hall k e with e1 | e1
    · exact k3 k e1 e'
    · have := k2.lt k e'; omega
  · rcases hall k e with e1 | e1
    · exact k4 k e1
    · exact Nat.le_trans h.fl e1
theorem Tryz.H2.since {B h1 h2 n1 n2 : Nat} {w : World} {F1 F2 : ByteArray → Option Sh} (h : Tryz.H2 B w h1 h2 n1 n2 F1 F2) (hT : Tryz.Tb w) {u : ByteArray} (hu : u.size ≤ maxLen) :
    Calls Tryz.prog 8 #[.pointer (some ⟨h1, 0, none⟩), .string u, .string ⟨#[]⟩] w fun e w' => ∃ V l, e = .returned (.tuple #[V, .slice none 0 0, .bool true, .string (Fd.fmt (Fd.keptOf F1 u).1), .int .i64 0]) ∧ (Fd.keptOf F1 u).2.getLast? = some l ∧ w'.ownsRow w.heap.size 39 3 V l.length (cnCells l) ∧ Below w.heap.size w w' := by
  obtain ⟨own1, p1, mb1, own2, p2, mb2, k1, _⟩ := h.ex
  exact Tryz.since_whole k1 hT u hu ⟨#[]⟩ (.inl rfl)
theorem Fd.last_put (x : List Cn) : ((putS sh0 x).getD sh0).2.getLast? = some x := by
  unfold putS
  split
  · rename_i h
    rcases h with h | h
    · simp [sh0] at h
    · simpa [sh0] using h
  · simp [sh0, trim]
theorem Fd.kept_none (u : ByteArray) : Fd.keptOf (fun _ => none) u = sh0 := rfl
end Go.Proofs
