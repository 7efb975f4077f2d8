/-
  MESSAGES, plain: a status is nought till it is read; what all bytes keep to.
-/
import Derived.Test.YtogimcdjllhkcaaGreatDoorXb
namespace Go.Wb
def early (t : Tk) (h : Th) : Bool := t == .ahead || t == .inMethod || t == .inTarget || t == .inVersion || t == .blankA || ((t == .lineFeed || t == .lineEnd) && h == .aheadAgain)
/-- Behind a state function: too early for a status, or it is nought. -/
def Nou (o : Out) : Prop := early o.1.1 o.1.2 = true → o.2.status = 0
theorem nou_fail (m : Msg) (a e : Nat) : Nou (fail m a e) := fun _ => rfl
theorem nou_refuse (m : Msg) : Nou (refuse m) := fun _ => rfl
theorem nou_late {o : Out} (h : early o.1.1 o.1.2 = false) : Nou o := fun e => absurd e (by rw [h]; decide)
theorem keep_status (m : Msg) (c : UInt8) : (keep m c).status = m.status := by unfold keep; split <;> rfl
theorem nou_headEnds (m : Msg) : Nou (headEnds m) := by
  unfold headEnds
  split
  · exact nou_fail _ _ _
  · split
    · exact nou_late rfl
    · split
      · exact nou_late rfl
      · exact nou_late rfl
theorem nou_thenDo (m : Msg) (t : Th) (h : t = .aheadAgain ∨ t = .requestLineEnds ∨ t = .statusFollows → m.status = 0) : Nou (thenDo t m) := by
  cases t with
  | no => exact nou_late rfl
  | aheadAgain => exact fun _ => h (.inl rfl)
  | headerLine => exact nou_late rfl
  | headerEnds => exact nou_late rfl
  | emptyLineEnds =>
    show Nou (emptyLineEnds m)
    unfold emptyLineEnds
    split
    · exact nou_late rfl
    · exact nou_headEnds _
  | requestLineEnds => exact fun _ => h (.inr (.inl rfl))
  | statusFollows => exact fun _ => h (.inr (.inr rfl))
  | sizeLine => exact nou_late rfl
  | sizeLineEnds =>
    show Nou (sizeLineEnds m)
    unfold sizeLineEnds
    split
    · exact nou_fail _ _ _
    · split
      · exact nou_late rfl
      · exact nou_late rfl
theorem nou_inMethod (m : Msg) (c : UInt8) (h : m.status = 0) : Nou (inMethod m c) := by
  unfold inMethod
  split
  · exact fun _ => (keep_status m c).trans h
  · split
    · exact fun _ => h
    · exact nou_refuse m
theorem nou_inName (m : Msg) (c : UInt8) : Nou (inName m c) := by
  unfold inName
  split
  · exact nou_late rfl
  · split
    · exact nou_late rfl
    · exact nou_refuse m
theorem nou_takeDo (m : Msg) (c : UInt8) (h : early m.tk m.th = true → m.status = 0) (hf : Ok m) : Nou (takeDo m.tk m c) := by
  cases ht : m.tk with
  | no => exact nou_late rfl
  | ahead =>
    have h0 := h (by rw [ht]; rfl)
    show Nou (ahead m c)
    unfold ahead
    split
    · exact fun _ => h0
    · exact nou_inMethod _ c h0
  | inMethod => exact nou_inMethod m c (h (by rw [ht]; rfl))
  | inTarget =>
    have h0 := h (by rw [ht]; rfl)
    show Nou (inTarget m c)
    unfold inTarget
    split
    · exact nou_refuse m
    · split
      · exact fun _ => h0
      · split
        · exact nou_refuse m
        · split
          · exact nou_fail _ _ _
          · exact fun _ => (keep_status m c).trans h0
  | inVersion =>
    have h0 := h (by rw [ht]; rfl)
    show Nou (inVersion m c)
    unfold inVersion
    split
    · exact nou_refuse m
    · split
      · exact fun _ => (keep_status m c).trans h0
      · split
        · exact nou_fail _ _ _
        · exact nou_thenDo _ _ fun _ => (keep_status m c).trans h0
  | lineEnd =>
    show Nou (lineEnd m c)
    unfold lineEnd
    split
    · intro e
      refine h ?_
      rw [ht]
      exact e
    · exact nou_refuse m
  | lineFeed =>
    show Nou (lineFeed m c)
    unfold lineFeed
    split
    · refine nou_thenDo m _ fun e => ?_
      have hn := (hf.feed (.inl ht))
      rcases e with e | e | e
      · exact h (by rw [ht, e]; rfl)
      · exact absurd e hn.2.1
      · exact absurd e hn.2.2
    · exact nou_refuse m
  | atLine =>
    show Nou (atLine m c)
    unfold atLine
    split
    · exact nou_late rfl
    · split
      · exact nou_fail _ _ _
      · exact nou_inName _ c
  | inName => exact nou_inName m c
  | inValue =>
    show Nou (inValue m c)
    unfold inValue
    split
    · exact nou_late rfl
    · split
      · exact nou_late (by rw [ht]; rfl)
      · split
        · exact nou_late (by rw [ht]; rfl)
        · exact nou_refuse m
  | inSize =>
    show Nou (inSize m c)
    unfold inSize
    split
    · exact nou_fail _ _ _
    · split
      · exact nou_late (by rw [ht]; rfl)
      · split
        · exact nou_refuse m
        · split
          · exact nou_late rfl
          · split
            · exact nou_late rfl
            · exact nou_refuse m
  | inExt =>
    show Nou (inExt m c)
    unfold inExt
    split
    · exact nou_fail _ _ _
    · split
      · exact nou_late rfl
      · split
        · exact nou_late (by rw [ht]; rfl)
        · exact nou_refuse m
  | blankA =>
    show Nou (blankA m c)
    unfold blankA
    split
    · exact nou_late rfl
    · exact nou_refuse m
  | inStatus =>
    show Nou (inStatus m c)
    unfold inStatus
    split
    · exact nou_refuse m
    · split
      · exact nou_late (by rw [ht]; rfl)
      · split
        · exact nou_late rfl
        · exact nou_fail _ _ _
  | blankB =>
    show Nou (blankB m c)
    unfold blankB
    split
    · exact nou_late rfl
    · exact nou_refuse m
  | inReason =>
    show Nou (inReason m c)
    unfold inReason
    split
    · exact nou_late rfl
    · split
      · exact nou_late (by rw [ht]; rfl)
      · exact nou_refuse m
/-- Behind a state function: bytes of a body are to come only where nothing else does, or a line's end. -/
def Bod (o : Out) : Prop := 0 < o.2.left → o.1.1 = .no ∨ o.1.1 = .lineEnd
theorem bod_fail (m : Msg) (a e : Nat) : Bod (fail m a e) := fun h => absurd h (Nat.lt_irrefl 0)
theorem bod_refuse (m : Msg) : Bod (refuse m) := fun h => absurd h (Nat.lt_irrefl 0)
theorem bod_of {o : Out} (h : o.2.left = 0) : Bod o := fun e => by rw [h] at e; exact absurd e (Nat.lt_irrefl 0)
theorem keep_left (m : Msg) (c : UInt8) : (keep m c).left = m.left := by unfold keep; split <;> rfl
theorem bod_headEnds (m : Msg) (h : m.left = 0) : Bod (headEnds m) := by
  unfold headEnds
  split
  · exact bod_fail _ _ _
  · split
    · exact bod_of h
    · split
      · exact bod_of h
      · exact fun _ => .inl rfl
theorem bod_thenDo (m : Msg) (t : Th) (h : m.left = 0) : Bod (thenDo t m) := by
  cases t with
  | headerEnds =>
    show Bod (headerEnds m)
    unfold headerEnds
    split <;> exact bod_of h
  | emptyLineEnds =>
    show Bod (emptyLineEnds m)
    unfold emptyLineEnds
    split
    · exact bod_of h
    · exact bod_headEnds _ h
  | sizeLineEnds =>
    show Bod (sizeLineEnds m)
    unfold sizeLineEnds
    split
    · exact bod_fail _ _ _
    · split
      · exact bod_of h
      · exact fun _ => .inr rfl
  | _ => exact bod_of h
theorem bod_inMethod (m : Msg) (c : UInt8) (h : m.left = 0) : Bod (inMethod m c) := by
  unfold inMethod
  split
  · exact bod_of ((keep_left m c).trans h)
  · split
    · exact bod_of h
    · exact bod_refuse m
theorem bod_inName (m : Msg) (c : UInt8) (h : m.left = 0) : Bod (inName m c) := by
  unfold inName
  split
  · exact bod_of ((keep_left m _).trans h)
  · split
    · exact bod_of h
    · exact bod_refuse m
theorem bod_takeDo (m : Msg) (c : UInt8) (h : m.left = 0) : Bod (takeDo m.tk m c) := by
  cases m.tk with
  | no => exact bod_of h
  | ahead =>
    show Bod (ahead m c)
    unfold ahead
    split
    · exact bod_of h
    · exact bod_inMethod _ c h
  | inMethod => exact bod_inMethod m c h
  | inTarget =>
    show Bod (inTarget m c)
    unfold inTarget
    repeat' split
    · exact bod_refuse m
    · exact bod_of h
    · exact bod_refuse m
    · exact bod_fail _ _ _
    · exact bod_of ((keep_left m _).trans h)
  | inVersion =>
    show Bod (inVersion m c)
    unfold inVersion
    repeat' split
    · exact bod_refuse m
    · exact bod_of ((keep_left m _).trans h)
    · exact bod_fail _ _ _
    · exact bod_thenDo _ _ ((keep_left m _).trans h)
  | lineEnd =>
    show Bod (lineEnd m c)
    unfold lineEnd
    split
    · exact bod_of h
    · exact bod_refuse m
  | lineFeed =>
    show Bod (lineFeed m c)
    unfold lineFeed
    split
    · exact bod_thenDo _ _ h
    · exact bod_refuse m
  | atLine =>
    show Bod (atLine m c)
    unfold atLine
    repeat' split
    · exact bod_of h
    · exact bod_fail _ _ _
    · exact bod_inName _ c h
  | inName => exact bod_inName m c h
  | inValue =>
    show Bod (inValue m c)
    unfold inValue
    repeat' split
    · exact bod_of h
    · exact bod_of h
    · exact bod_of ((keep_left m _).trans h)
    · exact bod_refuse m
  | inSize =>
    show Bod (inSize m c)
    unfold inSize
    repeat' split
    · exact bod_fail _ _ _
    · exact bod_of h
    · exact bod_refuse m
    · exact bod_of h
    · exact bod_of h
    · exact bod_refuse m
  | inExt =>
    show Bod (inExt m c)
    unfold inExt
    repeat' split
    · exact bod_fail _ _ _
    · exact bod_of h
    · exact bod_of h
    · exact bod_refuse m
  | blankA =>
    show Bod (blankA m c)
    unfold blankA
    split
    · exact bod_of h
    · exact bod_refuse m
  | inStatus =>
    show Bod (inStatus m c)
    unfold inStatus
    repeat' split
    · exact bod_refuse m
    · exact bod_of h
    · exact bod_of h
    · exact bod_fail _ _ _
  | blankB =>
    show Bod (blankB m c)
    unfold blankB
    split
    · exact bod_of h
    · exact bod_refuse m
  | inReason =>
    show Bod (inReason m c)
    unfold inReason
    repeat' split
    · exact bod_of h
    · exact bod_of h
    · exact bod_refuse m
/-- What every message keeps to. -/
structure Fit (m : Msg) : Prop where
  ok : Ok m
  nou : early m.tk m.th = true → m.status = 0
  bod : 0 < m.left → m.tk = .no ∨ m.tk = .lineEnd
theorem fit_zero : Fit zero := ⟨ok_zero, fun _ => rfl, fun h => absurd h (Nat.lt_irrefl 0)⟩
theorem fit_newReq (n : Nat) : Fit (newReq n) := ⟨⟨⟨Nat.zero_le _, Nat.zero_le _, Nat.zero_le _, Nat.zero_le _, Nat.zero_le _, Nat.zero_le _, (by show 6000 ≤ 999999999; omega), Nat.zero_le _, Nat.zero_le _, Nat.zero_le _⟩, (fun e => by cases e), (fun e => by cases e), (fun e => by rcases e with e | e <;> cases e)⟩, fun _ => rfl, fun h => absurd h (Nat.lt_irrefl 0)⟩
theorem fit_newRes : Fit newRes := ⟨⟨⟨Nat.zero_le _, Nat.zero_le _, Nat.zero_le _, Nat.zero_le _, Nat.zero_le _, Nat.zero_le _, Nat.le_refl _, Nat.zero_le _, Nat.zero_le _, Nat.zero_le _⟩, (fun e => by cases e), (fun _ => ⟨by show 0 < 8; omega, .inr rfl⟩), (fun e => by rcases e with e | e <;> cases e)⟩, fun _ => rfl, fun h => absurd h (Nat.lt_irrefl 0)⟩
theorem Fit.step {m : Msg} (h : Fit m) (c : UInt8) (hl : m.left = 0) : Fit (step m c) := by
  unfold Wb.step
  split
  · exact ⟨ok_faulty _ _, fun _ => rfl, fun h => absurd h (Nat.lt_irrefl 0)⟩
  · exact ⟨ok_takeDo h.ok c fun e => h.nou (by rw [e]; rfl), nou_takeDo m c h.nou h.ok, bod_takeDo m c hl⟩
theorem Fit.fill {m : Msg} (h : Fit m) (l : List UInt8) (hp : 0 < m.left) : Fit { m with body := m.body ++ l, left := m.left - l.length, at_ := m.at_ + l.length } := by
  have h0 := h.ok.ok
  have hb := h.bod hp
  refine ⟨⟨⟨?_, ?_, ?_, h0.lines, h0.status, h0.size, h0.most, ?_, ?_, ?_⟩, (fun e => by rcases hb with q | q <;> exact absurd (q.symm.trans e) (by decide)), (fun e => by rcases hb with q | q <;> exact absurd (q.symm.trans e) (by decide)), h.ok.feed⟩, h.nou, fun _ => hb⟩
  · have := h0.word; show m.word.length ≤ m.at_ + l.length; omega
  · have := h0.body; show (m.body ++ l).length ≤ m.at_ + l.length; rw [List.length_append]; omega
  · have := h0.heads; show m.headers.length ≤ m.at_ + l.length; omega
  · have := h0.left; show m.left - l.length ≤ 999999999; omega
  · have := h0.frm; show m.frm ≤ m.at_ + l.length; omega
  · have := h0.nos; show m.name.length ≤ m.at_ + l.length; omega
theorem Fit.bite {m : Msg} (h : Fit m) (c : UInt8) : Fit (bite m c) := by
  unfold Wb.bite
  split
  · rename_i hp
    exact h.fill [c] hp
  · exact h.step c (by omega)
/-- Many bytes of a body at once. -/
theorem bite_fill : ∀ (l : List UInt8) (m : Msg), 0 < m.left → l.length ≤ m.left → l.foldl bite m = { m with body := m.body ++ l, left := m.left - l.length, at_ := m.at_ + l.length }
  | [], m, _, _ => by simp
  | c :: r, m, hp, hl => by
    have e : bite m c = { m with body := m.body ++ [c], left := m.left - 1, at_ := m.at_ + 1 } := by unfold bite; rw [if_pos hp]
    rw [List.foldl_cons, e]
    by_cases h0 : r = []
    · subst h0; rfl
    · have hr : 0 < r.length := by cases r with | nil => exact absurd rfl h0 | cons _ _ => simp
      rw [List.length_cons] at hl
      rw [bite_fill r _ (by show 0 < m.left - 1; omega) (by show r.length ≤ m.left - 1; omega)]
      simp only [List.append_assoc, List.singleton_append, List.length_cons]
      rw [show m.left - 1 - r.length = m.left - (r.length + 1) by omega, show m.at_ + 1 + r.length = m.at_ + (r.length + 1) by omega]
end Go.Wb
