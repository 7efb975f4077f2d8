/-
  A queue above a floor of blocks (things: string).
-/
import Derived.Test.YtfchhiphjebkfaaQeS
namespace Go.Proofs
open Go.RowKit Go.Wi Go.Qu
/-- A queue, all of it in blocks from B on. -/
structure Try.QfS (B : Nat) (w : World) (b : Nat) (s : Qs ByteArray) : Prop where
  ex : ∃ own, Try.QuS w own b s ∧ (∀ k, own k → B ≤ k) ∧ B ≤ w.heap.size
section
variable {B : Nat} {w w' : World} {b : Nat} {s : Qs ByteArray}
theorem Try.QfS.floor {B' : Nat} (h : Try.QfS B w b s) (hB : B' ≤ B) : Try.QfS B' w b s := by
  obtain ⟨g, h1, h2, h3⟩ := h
  exact ⟨g, h1, fun x e => Nat.le_trans hB (h2 x e), Nat.le_trans hB h3⟩
theorem Try.QfS.below (h : Try.QfS B w b s) (hb : Below w.heap.size w w') : Try.QfS B w' b s := by
  obtain ⟨g, h1, h2, h3⟩ := h
  exact ⟨g, h1.below hb, h2, Nat.le_trans h3 hb.size⟩
theorem Try.QfS.inn (h : Try.QfS B w b s) : s.In := by
  obtain ⟨g, h1, h2, h3⟩ := h
  exact h1.inn
theorem Try.QCS.floor {own : Nat → Prop} {s' : Qs ByteArray} (hT : ∀ x, own x → B ≤ x) (hB : B ≤ w.heap.size) (h : Try.QCS own w w' b s') : Try.QfS B w' b s' ∧ Below B w w' := by
  obtain ⟨own', h1, h2⟩ := h.ex
  refine ⟨⟨own', h1, fun k e => ?_, Nat.le_trans hB h.wo.size⟩, Wo.toBelow (Below.refl B w) h.wo hT hB⟩
  rcases h2 k e with e1 | e1
  · exact hT k e1
  · omega
theorem Try.newS_f (size base most : Int) (h1 : 1 ≤ size) (h2 : size ≤ 1000) (h3 : 1 ≤ base) (h4 : base ≤ most) (h5 : most ≤ 1000000000) (w : World) :
    Calls Try.prog 14 #[.int .i64 size, .int .i64 base, .int .i64 most] w fun e w' => ∃ b, e = .returned (.tuple #[.pointer (some ⟨b, 0, none⟩), .int .i64 0]) ∧ Try.QfS w.heap.size w' b ⟨size, base, most, [], 0, 0, 0⟩ ∧ Below w.heap.size w w' :=
  (Try.newS size base most h1 h2 h3 h4 h5 w).mono fun _z _w' ⟨b, e, h6, h7⟩ => ⟨b, e, ⟨_, h6, fun _k e => e.1, h7.size⟩, h7⟩
theorem Try.stateS_f (h : Try.QfS B w b s) :
    Calls Try.prog 17 #[.pointer (some ⟨b, 0, none⟩)] w fun e w' => e = .returned (.tuple #[.int .i64 s.l.length, .int .i64 s.f, .int .i64 s.u, .int .i64 s.d]) ∧ Try.QfS B w' b s ∧ Below B w w' := by
  have h0 := h
  obtain ⟨g, h1, h2, h3⟩ := h
  exact (Try.stateS h1).mono fun z w' ⟨h4, h5⟩ => ⟨h4, h0.below h5, h5.mono h3⟩
theorem Try.headYesS_f (h : Try.QfS B w b s) {x : ByteArray} {r : List ByteArray} (hl : s.l = x :: r) (now : Int) (hn : s.u ≤ now) :
    Calls Try.prog 18 #[.pointer (some ⟨b, 0, none⟩), .int .i64 now] w fun e w' => e = .returned (.tuple #[Value.string x, .bool true]) ∧ w' = w := by
  obtain ⟨g, h1, h2, h3⟩ := h
  exact Try.headYesS h1 hl now hn
theorem Try.headNoS_f (h : Try.QfS B w b s) (now : Int) (hn : s.l = [] ∨ now < s.u) :
    Calls Try.prog 18 #[.pointer (some ⟨b, 0, none⟩), .int .i64 now] w fun e w' => e = .returned (.tuple #[Value.string (⟨#[]⟩ : ByteArray), .bool false]) ∧ w' = w := by
  obtain ⟨g, h1, h2, h3⟩ := h
  exact Try.headNoS h1 now hn
theorem Try.failedYesS_f (h : Try.QfS B w b s) {x : ByteArray} {r : List ByteArray} (hl : s.l = x :: r) (now : Int) (h0 : 0 ≤ now) (h1 : now ≤ 1000000000) :
    Calls Try.prog 20 #[.pointer (some ⟨b, 0, none⟩), .int .i64 now] w fun e w' => e = .returned (.int .i64 0) ∧ Try.QfS B w' b (s.failed now) ∧ Below B w w' := by
  obtain ⟨g, h2, h3, h4⟩ := h
  exact (Try.failedYesS h2 hl now h0 h1).mono fun z w' ⟨h5, h6⟩ => ⟨h5, h6.floor h3 h4⟩
theorem Try.failedNoS_f (h : Try.QfS B w b s) (hl : s.l = []) (now : Int) :
    Calls Try.prog 20 #[.pointer (some ⟨b, 0, none⟩), .int .i64 now] w fun e w' => e = .returned (.int .i64 2) ∧ w' = w := by
  obtain ⟨g, h1, h2, h3⟩ := h
  exact Try.failedNoS h1 hl now
theorem Try.putRoomS_f (h : Try.QfS B w b s) (x : ByteArray) (hx : (s.l.length : Int) < s.size) :
    Calls Try.prog 15 #[.pointer (some ⟨b, 0, none⟩), Value.string x] w fun e w' => e = .returned (.tuple #[Value.string (⟨#[]⟩ : ByteArray), .bool false]) ∧ Try.QfS B w' b { s with l := s.l ++ [x] } ∧ Below B w w' := by
  obtain ⟨g, h2, h3, h4⟩ := h
  exact (Try.putRoomS h2 x hx).mono fun z w' ⟨h5, h6⟩ => ⟨h5, h6.floor h3 h4⟩
theorem Try.putFullS_f (h : Try.QfS B w b s) (x : ByteArray) {y : ByteArray} {r : List ByteArray} (hl : s.l = y :: r) (hx : (s.l.length : Int) = s.size) :
    Calls Try.prog 15 #[.pointer (some ⟨b, 0, none⟩), Value.string x] w fun e w' => e = .returned (.tuple #[Value.string y, .bool true]) ∧ Try.QfS B w' b { s with l := r ++ [x], d := one s.d } ∧ Below B w w' := by
  obtain ⟨g, h2, h3, h4⟩ := h
  exact (Try.putFullS h2 x hl hx).mono fun z w' ⟨h5, h6⟩ => ⟨h5, h6.floor h3 h4⟩
end
end Go.Proofs
