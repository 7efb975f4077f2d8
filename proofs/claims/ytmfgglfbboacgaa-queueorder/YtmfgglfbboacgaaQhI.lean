/-
  A queue above a floor of blocks (things: int).
-/
import Derived.Test.YtmfgglfbboacgaaQeI
namespace Go.Proofs
open Go.RowKit Go.Wi Go.Qu
/-- A queue, all of it in blocks from B on. -/
structure Try.QfI (B : Nat) (w : World) (b : Nat) (s : Qs Int) : Prop where
  ex : ∃ own, Try.QuI w own b s ∧ (∀ k, own k → B ≤ k) ∧ B ≤ w.heap.size
section
variable {B : Nat} {w w' : World} {b : Nat} {s : Qs Int}
theorem Try.QfI.floor {B' : Nat} (h : Try.QfI B w b s) (hB : B' ≤ B) : Try.QfI B' w b s := by
  obtain ⟨g, h1, h2, h3⟩ := h
  exact ⟨g, h1, fun x e => Nat.le_trans hB (h2 x e), Nat.le_trans hB h3⟩
theorem Try.QfI.below (h : Try.QfI B w b s) (hb : Below w.heap.size w w') : Try.QfI B w' b s := by
  obtain ⟨g, h1, h2, h3⟩ := h
  exact ⟨g, h1.below hb, h2, Nat.le_trans h3 hb.size⟩
theorem Try.QfI.inn (h : Try.QfI B w b s) : s.In := by
  obtain ⟨g, h1, h2, h3⟩ := h
  exact h1.inn
theorem Try.QCI.floor {own : Nat → Prop} {s' : Qs Int} (hT : ∀ x, own x → B ≤ x) (hB : B ≤ w.heap.size) (h : Try.QCI own w w' b s') : Try.QfI B w' b s' ∧ Below B w w' := by
  obtain ⟨own', h1, h2⟩ := h.ex
  refine ⟨⟨own', h1, fun k e => ?_, Nat.le_trans hB h.wo.size⟩, Wo.toBelow (Below.refl B w) h.wo hT hB⟩
  rcases h2 k e with e1 | e1
  · exact hT k e1
  · omega
theorem Try.newI_f (size base most : Int) (h1 : 1 ≤ size) (h2 : size ≤ 1000) (h3 : 1 ≤ base) (h4 : base ≤ most) (h5 : most ≤ 1000000000) (w : World) :
    Calls Try.prog 8 #[.int .i64 size, .int .i64 base, .int .i64 most] w fun e w' => ∃ b, e = .returned (.tuple #[.pointer (some ⟨b, 0, none⟩), .int .i64 0]) ∧ Try.QfI w.heap.size w' b ⟨size, base, most, [], 0, 0, 0⟩ ∧ Below w.heap.size w w' :=
  (Try.newI size base most h1 h2 h3 h4 h5 w).mono fun _z _w' ⟨b, e, h6, h7⟩ => ⟨b, e, ⟨_, h6, fun _k e => e.1, h7.size⟩, h7⟩
theorem Try.stateI_f (h : Try.QfI B w b s) :
    Calls Try.prog 13 #[.pointer (some ⟨b, 0, none⟩)] w fun e w' => e = .returned (.tuple #[.int .i64 s.l.length, .int .i64 s.f, .int .i64 s.u, .int .i64 s.d]) ∧ Try.QfI B w' b s ∧ Below B w w' := by
  have h0 := h
  obtain ⟨g, h1, h2, h3⟩ := h
  exact (Try.stateI h1).mono fun z w' ⟨h4, h5⟩ => ⟨h4, h0.below h5, h5.mono h3⟩
theorem Try.headYesI_f (h : Try.QfI B w b s) {x : Int} {r : List Int} (hl : s.l = x :: r) (now : Int) (hn : s.u ≤ now) :
    Calls Try.prog 9 #[.pointer (some ⟨b, 0, none⟩), .int .i64 now] w fun e w' => e = .returned (.tuple #[Value.int .i64 x, .bool true]) ∧ w' = w := by
  obtain ⟨g, h1, h2, h3⟩ := h
  exact Try.headYesI h1 hl now hn
theorem Try.headNoI_f (h : Try.QfI B w b s) (now : Int) (hn : s.l = [] ∨ now < s.u) :
    Calls Try.prog 9 #[.pointer (some ⟨b, 0, none⟩), .int .i64 now] w fun e w' => e = .returned (.tuple #[Value.int .i64 (0 : Int), .bool false]) ∧ w' = w := by
  obtain ⟨g, h1, h2, h3⟩ := h
  exact Try.headNoI h1 now hn
theorem Try.failedYesI_f (h : Try.QfI B w b s) {x : Int} {r : List Int} (hl : s.l = x :: r) (now : Int) (h0 : 0 ≤ now) (h1 : now ≤ 1000000000) :
    Calls Try.prog 11 #[.pointer (some ⟨b, 0, none⟩), .int .i64 now] w fun e w' => e = .returned (.int .i64 0) ∧ Try.QfI B w' b (s.failed now) ∧ Below B w w' := by
  obtain ⟨g, h2, h3, h4⟩ := h
  exact (Try.failedYesI h2 hl now h0 h1).mono fun z w' ⟨h5, h6⟩ => ⟨h5, h6.floor h3 h4⟩
theorem Try.failedNoI_f (h : Try.QfI B w b s) (hl : s.l = []) (now : Int) :
    Calls Try.prog 11 #[.pointer (some ⟨b, 0, none⟩), .int .i64 now] w fun e w' => e = .returned (.int .i64 2) ∧ w' = w := by
  obtain ⟨g, h1, h2, h3⟩ := h
  exact Try.failedNoI h1 hl now
theorem Try.putRoomI_f (h : Try.QfI B w b s) (x : Int) (hx : (s.l.length : Int) < s.size) :
    Calls Try.prog 12 #[.pointer (some ⟨b, 0, none⟩), Value.int .i64 x] w fun e w' => e = .returned (.tuple #[Value.int .i64 (0 : Int), .bool false]) ∧ Try.QfI B w' b { s with l := s.l ++ [x] } ∧ Below B w w' := by
  obtain ⟨g, h2, h3, h4⟩ := h
  exact (Try.putRoomI h2 x hx).mono fun z w' ⟨h5, h6⟩ => ⟨h5, h6.floor h3 h4⟩
theorem Try.putFullI_f (h : Try.QfI B w b s) (x : Int) {y : Int} {r : List Int} (hl : s.l = y :: r) (hx : (s.l.length : Int) = s.size) :
    Calls Try.prog 12 #[.pointer (some ⟨b, 0, none⟩), Value.int .i64 x] w fun e w' => e = .returned (.tuple #[Value.int .i64 y, .bool true]) ∧ Try.QfI B w' b { s with l := r ++ [x], d := one s.d } ∧ Below B w w' := by
  obtain ⟨g, h2, h3, h4⟩ := h
  exact (Try.putFullI h2 x hl hx).mono fun z w' ⟨h5, h6⟩ => ⟨h5, h6.floor h3 h4⟩
end
end Go.Proofs
