/-
  The parts of a path, as a row that is owned.
-/
import Derived.Test.YtoibnhknkhefjaaGreatDoorJtw
namespace Go.Jv
theorem pathF_len (s : ByteArray) : ∀ (n p : Nat) (parts : List ByteArray) (part : List UInt8) (l : List ByteArray), pathF s n p parts part = .ok l → 0 < l.length ∧ l.length ≤ parts.length + n + 1 := by
  intro n
  induction n with
  | zero =>
    intro p parts part l h
    rw [pathF] at h; injection h with h; subst h; simp
  | succ n ih =>
    intro p parts part l h
    by_cases hp : p < s.size
    · rw [pathF_step s n p parts part hp] at h
      split at h
      · cases h
      · split at h
        · have := ih _ _ _ _ h; simp at this ⊢; omega
        · split at h
          · have := ih _ _ _ _ h; omega
          · split at h
            · cases h
            · have := ih _ _ _ _ h; omega
    · rw [pathF_end s (n + 1) p parts part hp] at h; injection h with h; subst h; simp
/-- The parts of a path, none where it is wrong. -/
def lst (s : ByteArray) : List ByteArray := match path s with
  | .ok l => l
  | .bad _ _ => []
theorem lst_ok {s : ByteArray} {l : List ByteArray} (h : path s = .ok l) : lst s = l ∧ 0 < l.length ∧ l.length ≤ 1000 := by
  refine ⟨by unfold lst; rw [h], ?_⟩
  unfold path at h
  split at h
  · cases h
  · have := pathF_len s _ _ _ _ _ h
    simp at this; omega
theorem lst_bad {s : ByteArray} {p e : Nat} (h : path s = .bad p e) : lst s = [] := by unfold lst; rw [h]
end Go.Jv
namespace Go.Proofs
open Go.RowKit Go.Jv
def Tryz.EvOk (l : List ByteArray) (ev : Value) : Prop := (0 < l.length ∧ ev = .nilIface) ∨ (l.length = 0 ∧ ∃ y, ev = .iface 71 (.pointer (some ⟨y, 0, none⟩)))
theorem Tryz.path_own (s : ByteArray) (hs : s.size ≤ 140737488355328) (w : World) (hT : Tryz.Tb w) :
    Calls Tryz.prog 20 #[.string s] w fun en w' => ∃ a c ev, en = .returned (.tuple #[.slice a (lst s).length c, ev]) ∧ Tryz.Own w' (.slice a (lst s).length c) w.heap.size w'.heap.size (lst s) ∧ (lst s = [] → Value.slice a (lst s).length c = .slice none 0 0) ∧ (lst s).length ≤ 1000 ∧ Below w.heap.size w w' ∧ Tryz.EvOk (lst s) ev := by
  refine (Tryz.path_any s hs w hT).mono fun en w' h => ?_
  rcases h with ⟨l, v, h1, h2, h3, h4⟩ | ⟨p, e, y, h1, h2, -, -, -, h4⟩
  · obtain ⟨e1, e2, e3⟩ := lst_ok h1
    rw [e1]
    obtain ⟨g, c, rfl, hb, hlt⟩ := h3.form e2
    exact ⟨_, c, _, h2, ⟨h3, fun k hk => by simp [Value.ownBlock] at hk; omega, Nat.le_refl _⟩, fun e => by rw [e] at e2; simp at e2, e3, h4, .inl ⟨e2, rfl⟩⟩
  · rw [lst_bad h1]
    exact ⟨none, 0, _, h2, ⟨⟨rfl, .inl ⟨rfl, rfl⟩⟩, fun k hk => by simp [Value.ownBlock] at hk, Nat.le_refl _⟩, fun _ => rfl, by simp, h4, .inr ⟨rfl, y, rfl⟩⟩
theorem Jv.same_below {w W : World} (h1 : W.heap = w.heap) (h2 : W.os = w.os) (h3 : W.tape = w.tape) (h4 : W.output = w.output) : Below w.heap.size w W :=
  ⟨h2, h3, h4, by rw [h1]; exact Nat.le_refl _, fun k _ => by rw [h1]⟩
theorem Jv.same0 {w w' : World} (h : Jv.Off 0 0 w w') : Below w.heap.size w w' := ⟨h.os, h.tape, h.output, by rw [h.size]; exact Nat.le_refl _, fun k _ => h.block k (by omega)⟩
end Go.Proofs
