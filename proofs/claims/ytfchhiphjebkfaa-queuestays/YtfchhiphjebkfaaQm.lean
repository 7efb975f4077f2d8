/-
  Calls within a body that is ranged over: what is no cells stays.
-/
import Derived.Test.YtfchhiphjebkfaaQlI
import Derived.Test.YtfchhiphjebkfaaQeI
import Derived.Test.YtfchhiphjebkfaaQgI
namespace Go.Proofs
open Go.RowKit Go.Wi Go.Qu
/-- The blocks that it is in, and no more: all of them cells. -/
theorem Try.QuI.tight {w : World} {own : Nat → Prop} {b : Nat} {s : Qs Int} (h : Try.QuI w own b s) : ∃ own0 : Nat → Prop, (∀ k, own0 k → own k) ∧ Try.QuI w own0 b s ∧ ∀ k, own0 k → ∃ c T f, w.heap[k]? = some (.cells c T f) := by
  obtain ⟨v, g, h1, h2, h3, h4⟩ := h.ex
  refine ⟨fun k => k = b ∨ g = some k, fun k e => ?_, ⟨⟨v, g, h1, h2, h3, fun k e => .inr e⟩, .inl rfl, fun k e => ?_, h.inn⟩, fun k e => ?_⟩
  · rcases e with e | e
    · subst e; exact h.ox
    · exact h4 k e
  · rcases e with e | e
    · subst e; exact h.lt _ h.ox
    · exact h2.lt e
  · rcases e with e | e
    · subst e; exact ⟨_, _, _, h1⟩
    · rcases h2.ex with ⟨a, _, _, e2⟩ | ⟨k', o, cap, cur, _, e2, h5, _⟩
      · rw [e2] at e; cases e
      · rw [e2] at e; cases e; exact ⟨_, _, _, h5⟩
theorem Qu.others {own : Nat → Prop} {w w' : World} (h : Wo own w w') (hc : ∀ k, own k → ∃ c T f, w.heap[k]? = some (.cells c T f)) : KeepsOthers w w' :=
  ⟨h.size, fun k o hk ho => by
    rw [h.block k (block_lt hk) (fun e => by obtain ⟨c, T, f, e1⟩ := hc k e; rw [hk] at e1; cases e1; simp [Obj.isCells] at ho)]
    exact hk⟩
/-- What a call leaves, within such a body. -/
structure Try.QK (own : Nat → Prop) (w w' : World) (b : Nat) : Prop where
  ex : ∃ own' s, Try.QuI w' own' b s ∧ ∀ k, own' k → own k ∨ w.heap.size ≤ k
  wo : Wo own w w'
  ko : KeepsOthers w w'
theorem Try.QK.of {own own0 : Nat → Prop} {w w' : World} {b : Nat} {s : Qs Int} (h1 : ∀ k, own0 k → own k) (h2 : ∀ k, own0 k → ∃ c T f, w.heap[k]? = some (.cells c T f)) (h : Try.QCI own0 w w' b s) : Try.QK own w w' b := by
  obtain ⟨own', h3, h4⟩ := h.ex
  exact ⟨⟨own', s, h3, fun k e => (h4 k e).imp (h1 k) id⟩, h.wo.mono h1, Qu.others h.wo h2⟩
theorem Try.putAnyI {w : World} {own : Nat → Prop} {b : Nat} {s : Qs Int} (h : Try.QuI w own b s) (x : Int) :
    Calls Try.prog 12 #[.pointer (some ⟨b, 0, none⟩), .int .i64 x] w fun e w' => (∃ y g, e = .returned (.tuple #[.int .i64 y, .bool g])) ∧ Try.QK own w w' b := by
  obtain ⟨own0, h1, h2, h3⟩ := h.tight
  have hln := h.inn.ln
  have hs1 := h.inn.s1
  by_cases hf : (s.l.length : Int) = s.size
  · obtain ⟨y, r, hl⟩ : ∃ y r, s.l = y :: r := by
      cases hl : s.l with
      | nil => rw [hl] at hf; simp at hf; omega
      | cons y r => exact ⟨y, r, rfl⟩
    exact (Try.putFullI h2 x hl hf).mono fun e w' ⟨e1, e2⟩ => ⟨⟨_, _, e1⟩, .of h1 h3 e2⟩
  · exact (Try.putRoomI h2 x (by omega)).mono fun e w' ⟨e1, e2⟩ => ⟨⟨_, _, e1⟩, .of h1 h3 e2⟩
theorem Try.doneAnyI {w : World} {own : Nat → Prop} {b : Nat} {s : Qs Int} (h : Try.QuI w own b s) :
    Calls Try.prog 10 #[.pointer (some ⟨b, 0, none⟩)] w fun e w' => (∃ y, e = .returned (.int .i64 y)) ∧ Try.QK own w w' b := by
  obtain ⟨own0, h1, h2, h3⟩ := h.tight
  cases hl : s.l with
  | nil => exact (Try.doneNoI h2 hl).mono fun e w' ⟨e1, e2⟩ => ⟨⟨_, e1⟩, e2 ▸ ⟨⟨own, s, e2 ▸ h, fun _ e => .inl e⟩, Wo.refl _ _, KeepsOthers.refl _⟩⟩
  | cons x r => exact (Try.doneYesI h2 hl).mono fun e w' ⟨e1, e2⟩ => ⟨⟨_, e1⟩, .of h1 h3 e2⟩
/-- The last n of the first i. -/
def Qu.lastOf (l : List Int) (n i : Nat) : List Int := (l.take i).drop (i - n)
theorem Qu.lastOf_room {l : List Int} {n i : Nat} (hi : i < l.length) (hn : i < n) : Qu.lastOf l n i ++ [l[i]] = Qu.lastOf l n (i + 1) := by
  unfold Qu.lastOf
  rw [show i - n = 0 by omega, show i + 1 - n = 0 by omega, List.drop_zero, List.drop_zero, List.take_append_getElem hi]
theorem Qu.lastOf_len {l : List Int} {n i : Nat} (hi : i ≤ l.length) : (Qu.lastOf l n i).length = min i n := by
  unfold Qu.lastOf
  rw [List.length_drop, List.length_take]
  omega
theorem Qu.lastOf_full {l : List Int} {n i : Nat} (hi : i < l.length) (hn : n ≤ i) (h0 : 0 < n) : ∃ y r, Qu.lastOf l n i = y :: r ∧ r ++ [l[i]] = Qu.lastOf l n (i + 1) := by
  have hlen : (Qu.lastOf l n i).length = n := by rw [Qu.lastOf_len (by omega)]; omega
  cases hl : Qu.lastOf l n i with
  | nil => rw [hl] at hlen; simp at hlen; omega
  | cons y r =>
    refine ⟨y, r, rfl, ?_⟩
    have e : r = (Qu.lastOf l n i).tail := by rw [hl]; rfl
    rw [e]
    unfold Qu.lastOf
    rw [List.tail_drop, ← List.drop_append_of_le_length (by rw [List.length_take]; omega), List.take_append_getElem hi]
    congr 1
    omega
theorem Qu.lastOf_all (l : List Int) (n : Nat) : Qu.lastOf l n l.length = l.drop (l.length - n) := by
  unfold Qu.lastOf
  rw [List.take_length]
end Go.Proofs
