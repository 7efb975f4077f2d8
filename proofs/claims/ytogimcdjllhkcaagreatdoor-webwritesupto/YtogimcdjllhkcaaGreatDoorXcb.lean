/-
  MESSAGES, plain: how many headers there are; what all messages keep to, together.
-/
import Derived.Test.YtogimcdjllhkcaaGreatDoorXca
namespace Go.Wb
def Cur (t : Tk) (h : Th) : Bool := t == .inName || t == .inValue || ((t == .lineFeed || t == .lineEnd) && h == .headerEnds)
theorem nocur {t : Tk} {h : Th} (e : Cur t h = false) {P Q : Prop} : P → Cur t h = true → Q := fun _ e' => by rw [e] at e'; cases e'
structure Hl (m : Msg) : Prop where
  le : m.headers.length ≤ 32
  ln : m.trailers = false → m.headers.length ≤ m.lines
  cur : m.trailers = false → Cur m.tk m.th = true → m.headers.length + 1 ≤ m.lines
theorem hlx (o : Out) (le : o.2.headers.length ≤ 32) (ln : o.2.trailers = false → o.2.headers.length ≤ o.2.lines) (cur : o.2.trailers = false → Cur o.1.1 o.1.2 = true → o.2.headers.length + 1 ≤ o.2.lines) : Hl (after o) := ⟨le, ln, cur⟩
theorem hl_fail (m : Msg) (a e : Nat) : Hl (after (fail m a e)) := ⟨Nat.zero_le _, fun _ => Nat.zero_le _, nocur rfl⟩
theorem hl_refuse (m : Msg) : Hl (after (refuse m)) := hl_fail m _ _
theorem keep_heads (m : Msg) (c : UInt8) : (keep m c).headers = m.headers ∧ (keep m c).lines = m.lines ∧ (keep m c).trailers = m.trailers := by unfold keep; split <;> exact ⟨rfl, rfl, rfl⟩
theorem hl_keep {m : Msg} (le : m.headers.length ≤ 32) (ln : m.trailers = false → m.headers.length ≤ m.lines) (c : UInt8) (s : St) (cur : m.trailers = false → Cur s.1 s.2 = true → m.headers.length + 1 ≤ m.lines) : Hl (after (s, keep m c)) := by
  obtain ⟨e1, e2, e3⟩ := keep_heads m c
  exact hlx (s, keep m c) (by show (keep m c).headers.length ≤ 32; rw [e1]; exact le) (by show (keep m c).trailers = false → (keep m c).headers.length ≤ (keep m c).lines; rw [e1, e2, e3]; exact ln) (by show (keep m c).trailers = false → Cur s.1 s.2 = true → (keep m c).headers.length + 1 ≤ (keep m c).lines; rw [e1, e2, e3]; exact cur)
theorem hl_headEnds {m : Msg} (le : m.headers.length ≤ 32) (ln : m.trailers = false → m.headers.length ≤ m.lines) : Hl (after (headEnds m)) := by
  unfold headEnds
  repeat' split
  · exact hl_fail _ _ _
  · exact hlx ((.no, .no), { m with last := isLast m }) le ln (nocur rfl)
  · exact hlx (sizeLine { m with last := isLast m }) le ln (nocur rfl)
  · exact hlx ((.no, .no), { m with last := isLast m, left := (frame m).1 }) le ln (nocur rfl)
theorem hl_thenDo {m : Msg} (le : m.headers.length ≤ 32) (ln : m.trailers = false → m.headers.length ≤ m.lines) (hli : m.lines ≤ 32) (t : Th) (cur : t = .headerEnds → m.trailers = false → m.headers.length + 1 ≤ m.lines) : Hl (after (thenDo t m)) := by
  cases t with
  | no => exact hlx (_, m) le ln (nocur rfl)
  | aheadAgain => exact hlx (_, m) le ln (nocur rfl)
  | headerLine => exact hlx (headerLine m) le ln (nocur rfl)
  | headerEnds =>
    show Hl (after (headerEnds m))
    unfold headerEnds
    split
    · exact hlx (headerLine m) le ln (nocur rfl)
    · rename_i ht
      have hc := cur rfl (Bool.eq_false_iff.2 ht)
      refine hlx (headerLine { m with headers := m.headers ++ [(m.name, trimR m.word)] }) ?_ (fun _ => ?_) (nocur rfl)
      · show (m.headers ++ [(m.name, trimR m.word)]).length ≤ 32
        rw [List.length_append]; simp only [List.length_singleton]; omega
      · show (m.headers ++ [(m.name, trimR m.word)]).length ≤ m.lines
        rw [List.length_append]; simp only [List.length_singleton]; omega
  | emptyLineEnds =>
    show Hl (after (emptyLineEnds m))
    unfold emptyLineEnds
    split
    · exact hlx (_, m) le ln (nocur rfl)
    · exact hl_headEnds (m := { m with bound := -1, word := [], name := [] }) le ln
  | requestLineEnds => exact hlx (_, m) le ln (nocur rfl)
  | statusFollows => exact hlx (_, m) le ln (nocur rfl)
  | sizeLine => exact hlx (sizeLine m) le ln (nocur rfl)
  | sizeLineEnds =>
    show Hl (after (sizeLineEnds m))
    unfold sizeLineEnds
    repeat' split
    · exact hl_fail _ _ _
    · exact hlx (headerLine { m with trailers := true, lines := 0, bound := m.at_ + 1 + 2048 }) le (fun e => by cases e) (nocur rfl)
    · exact hlx (_, { m with left := m.size }) le ln (nocur rfl)
theorem hl_inMethod {m : Msg} (le : m.headers.length ≤ 32) (ln : m.trailers = false → m.headers.length ≤ m.lines) (c : UInt8) : Hl (after (inMethod m c)) := by
  unfold inMethod
  repeat' split
  · exact hl_keep le ln c _ (nocur rfl)
  · exact hlx (part { m with method := m.word } .inTarget) le ln (nocur rfl)
  · exact hl_refuse m
theorem hl_inName {m : Msg} (le : m.headers.length ≤ 32) (ln : m.trailers = false → m.headers.length ≤ m.lines) (cur : m.trailers = false → m.headers.length + 1 ≤ m.lines) (c : UInt8) : Hl (after (inName m c)) := by
  unfold inName
  repeat' split
  · exact hl_keep le ln _ _ (fun e _ => cur e)
  · exact hlx (part { m with name := m.word } .inValue) le ln (fun e _ => cur e)
  · exact hl_refuse m
theorem Hl.takeDo {m : Msg} (h : Hl m) (hli : m.lines ≤ 32) (c : UInt8) (hok : Ok m) : Hl (after (takeDo m.tk m c)) := by
  have le := h.le
  have ln := h.ln
  cases ht : m.tk with
  | no => exact hlx (_, m) le ln (nocur rfl)
  | ahead =>
    show Hl (after (ahead m c))
    unfold ahead
    split
    · exact hlx (_, m) le ln (nocur rfl)
    · exact hl_inMethod (m := { m with bound := m.at_ + 2048 }) le ln c
  | inMethod => exact hl_inMethod le ln c
  | inTarget =>
    show Hl (after (inTarget m c))
    unfold inTarget
    repeat' split
    · exact hl_refuse m
    · exact hlx (_, (part { m with target := m.word } .inVersion).2) le ln (nocur rfl)
    · exact hl_refuse m
    · exact hl_fail _ _ _
    · exact hl_keep le ln c _ (nocur (by rw [ht]; rfl))
  | inVersion =>
    have hv := (hok.ver ht).2
    obtain ⟨e1, e2, e3⟩ := keep_heads m c
    show Hl (after (inVersion m c))
    unfold inVersion
    repeat' split
    · exact hl_refuse m
    · exact hl_keep le ln c _ (nocur (by rw [ht]; rfl))
    · exact hl_fail _ _ _
    · exact hl_thenDo (m := { keep m c with newer := decide ((keep m c).word = wNewer) }) (by show (keep m c).headers.length ≤ 32; rw [e1]; exact le) (by show (keep m c).trailers = false → (keep m c).headers.length ≤ (keep m c).lines; rw [e1, e2, e3]; exact ln) (by show (keep m c).lines ≤ 32; rw [e2]; exact hli) _ (fun e => by rcases hv with q | q <;> rw [q] at e <;> cases e)
  | lineEnd =>
    show Hl (after (lineEnd m c))
    unfold lineEnd
    split
    · exact hlx ((.lineFeed, m.th), m) le ln (fun e e' => h.cur e (by rw [ht]; exact e'))
    · exact hl_refuse m
  | lineFeed =>
    show Hl (after (lineFeed m c))
    unfold lineFeed
    split
    · exact hl_thenDo le ln hli _ (fun e e' => h.cur e' (by rw [ht, e]; rfl))
    · exact hl_refuse m
  | atLine =>
    show Hl (after (atLine m c))
    unfold atLine
    repeat' split
    · exact hlx (_, m) le ln (nocur rfl)
    · exact hl_fail _ _ _
    · exact hl_inName (m := { m with lines := m.lines + 1 }) le (fun e => Nat.le_succ_of_le (ln e)) (fun e => Nat.succ_le_succ (ln e)) c
  | inName => exact hl_inName le ln (fun e => h.cur e (by rw [ht]; rfl)) c
  | inValue =>
    have cu : m.trailers = false → m.headers.length + 1 ≤ m.lines := fun e => h.cur e (by rw [ht]; rfl)
    show Hl (after (inValue m c))
    unfold inValue
    repeat' split
    · exact hlx (_, m) le ln (fun e _ => cu e)
    · exact hlx (_, m) le ln (fun e _ => cu e)
    · exact hl_keep le ln c _ (fun e _ => cu e)
    · exact hl_refuse m
  | inSize =>
    show Hl (after (inSize m c))
    unfold inSize
    repeat' split
    · exact hl_fail _ _ _
    · rename_i d _; exact hlx (_, { m with size := grown m.most m.size 16 d }) le ln (nocur (by rw [ht]; rfl))
    · exact hl_refuse m
    · exact hlx (_, m) le ln (nocur rfl)
    · exact hlx (_, m) le ln (nocur rfl)
    · exact hl_refuse m
  | inExt =>
    show Hl (after (inExt m c))
    unfold inExt
    repeat' split
    · exact hl_fail _ _ _
    · exact hlx (_, m) le ln (nocur rfl)
    · exact hlx (_, m) le ln (nocur (by rw [ht]; rfl))
    · exact hl_refuse m
  | blankA =>
    show Hl (after (blankA m c))
    unfold blankA
    split
    · exact hlx (part m .inStatus) le ln (nocur rfl)
    · exact hl_refuse m
  | inStatus =>
    show Hl (after (inStatus m c))
    unfold inStatus
    repeat' split
    · exact hl_refuse m
    · exact hlx (_, { m with status := m.status * 10 + (c.toNat - 48) }) le ln (nocur (by rw [ht]; rfl))
    · exact hlx ((.blankB, .no), { m with status := m.status * 10 + (c.toNat - 48) }) le ln (nocur rfl)
    · exact hl_fail _ _ _
  | blankB =>
    show Hl (after (blankB m c))
    unfold blankB
    split
    · exact hlx (_, m) le ln (nocur rfl)
    · exact hl_refuse m
  | inReason =>
    show Hl (after (inReason m c))
    unfold inReason
    repeat' split
    · exact hlx (_, m) le ln (nocur rfl)
    · exact hlx (_, m) le ln (nocur (by rw [ht]; rfl))
    · exact hl_refuse m
/-- All of it. -/
structure Good (m : Msg) : Prop where
  fit : Fit m
  sz : Sz m
  hl : Hl m
  lef : 0 < m.left → m.tk = .lineEnd → m.th = .sizeLine
theorem good_zero : Good zero := ⟨fit_zero, sz_faulty 0 0, ⟨Nat.zero_le _, fun _ => Nat.zero_le _, nocur rfl⟩, fun h => absurd h (Nat.lt_irrefl 0)⟩
theorem good_newReq (n : Nat) : Good (newReq n) := ⟨fit_newReq n, ⟨(fun p hp => by cases hp), Nat.zero_le _, (fun e => by cases e), (fun _ => rfl), (fun e => by cases e)⟩, ⟨Nat.zero_le _, fun _ => Nat.zero_le _, nocur rfl⟩, fun h => absurd h (Nat.lt_irrefl 0)⟩
theorem good_newRes : Good newRes := ⟨fit_newRes, ⟨(fun p hp => by cases hp), Nat.zero_le _, (fun _ => ⟨by show ((0 : Nat) : Int) + 2048 ≤ ((0 : Nat) : Int) + 2048; omega, by show ((0 : Nat) : Int) ≤ 2048; omega⟩), (fun e => by cases e), (fun e => by cases e)⟩, ⟨Nat.zero_le _, fun _ => Nat.zero_le _, nocur rfl⟩, fun h => absurd h (Nat.lt_irrefl 0)⟩
theorem Good.step {m : Msg} (h : Good m) (c : UInt8) (hl : m.left = 0) : Good (step m c) := by
  refine ⟨h.fit.step c hl, h.sz.step c h.fit.ok, ?_, ?_⟩
  · unfold Wb.step
    split
    · exact ⟨Nat.zero_le _, fun _ => Nat.zero_le _, nocur rfl⟩
    · exact h.hl.takeDo h.fit.ok.ok.lines c h.fit.ok
  · unfold Wb.step
    split
    · exact fun h => absurd h (Nat.lt_irrefl 0)
    · exact bodb_takeDo m c hl
theorem Good.fill {m : Msg} (h : Good m) (l : List UInt8) (hp : 0 < m.left) : Good { m with body := m.body ++ l, left := m.left - l.length, at_ := m.at_ + l.length } :=
  ⟨h.fit.fill l hp, h.sz.fill hp h.fit.bod (h.lef hp) _ _ _, ⟨h.hl.le, h.hl.ln, h.hl.cur⟩, fun _ => h.lef hp⟩
theorem Good.bite {m : Msg} (h : Good m) (c : UInt8) : Good (bite m c) := by
  unfold Wb.bite
  split
  · rename_i hp; exact h.fill [c] hp
  · exact h.step c (by omega)
theorem Good.goOn {m : Msg} (_ : Good m) : Good (goOn m) := by
  unfold Wb.goOn
  split
  · exact good_zero
  · exact good_newReq _
theorem keep_at (m : Msg) (c : UInt8) : (keep m c).at_ = m.at_ := by unfold keep; split <;> rfl
def At (m : Msg) (o : Out) : Prop := o.2.at_ = m.at_ ∨ o.2.at_ = 0
theorem at_headEnds (m : Msg) : At m (headEnds m) := by unfold headEnds; (repeat' split); all_goals first | exact .inl rfl | exact .inr rfl
theorem at_thenDo (m : Msg) (t : Th) : At m (thenDo t m) := by
  cases t with
  | headerEnds => show At m (headerEnds m); unfold headerEnds; split <;> exact .inl rfl
  | emptyLineEnds => show At m (emptyLineEnds m); unfold emptyLineEnds; split; exact .inl rfl; exact at_headEnds { m with bound := -1, word := [], name := [] }
  | sizeLineEnds => show At m (sizeLineEnds m); unfold sizeLineEnds; (repeat' split); all_goals first | exact .inl rfl | exact .inr rfl
  | _ => exact .inl rfl
theorem at_inMethod (m : Msg) (c : UInt8) : At m (inMethod m c) := by
  unfold inMethod
  repeat' split
  · exact .inl (keep_at m c)
  · exact .inl rfl
  · exact .inr rfl
theorem at_inName (m : Msg) (c : UInt8) : At m (inName m c) := by
  unfold inName
  repeat' split
  · exact .inl (keep_at m _)
  · exact .inl rfl
  · exact .inr rfl
theorem at_takeDo (m : Msg) (t : Tk) (c : UInt8) : At m (takeDo t m c) := by
  cases t with
  | no => exact .inl rfl
  | ahead => show At m (ahead m c); unfold ahead; split; exact .inl rfl; exact at_inMethod { m with bound := m.at_ + 2048 } c
  | inMethod => exact at_inMethod m c
  | inTarget => show At m (inTarget m c); unfold inTarget; (repeat' split); all_goals first | exact .inl rfl | exact .inr rfl | exact .inl (keep_at m c)
  | inVersion =>
    show At m (inVersion m c)
    unfold inVersion
    repeat' split
    · exact .inr rfl
    · exact .inl (keep_at m c)
    · exact .inr rfl
    · have := at_thenDo { keep m c with newer := decide ((keep m c).word = wNewer) } m.th
      rcases this with e | e
      · exact .inl (e.trans (keep_at m c))
      · exact .inr e
  | lineEnd => show At m (lineEnd m c); unfold lineEnd; split; exact .inl rfl; exact .inr rfl
  | lineFeed => show At m (lineFeed m c); unfold lineFeed; split; exact at_thenDo m _; exact .inr rfl
  | atLine => show At m (atLine m c); unfold atLine; (repeat' split); exact .inl rfl; exact .inr rfl; exact at_inName { m with lines := m.lines + 1 } c
  | inName => exact at_inName m c
  | inValue => show At m (inValue m c); unfold inValue; (repeat' split); all_goals first | exact .inl rfl | exact .inr rfl | exact .inl (keep_at m c)
  | inSize => show At m (inSize m c); unfold inSize; (repeat' split); all_goals first | exact .inl rfl | exact .inr rfl
  | inExt => show At m (inExt m c); unfold inExt; (repeat' split); all_goals first | exact .inl rfl | exact .inr rfl
  | blankA => show At m (blankA m c); unfold blankA; split; exact .inl rfl; exact .inr rfl
  | inStatus => show At m (inStatus m c); unfold inStatus; (repeat' split); all_goals first | exact .inl rfl | exact .inr rfl
  | blankB => show At m (blankB m c); unfold blankB; split; exact .inl rfl; exact .inr rfl
  | inReason => show At m (inReason m c); unfold inReason; (repeat' split); all_goals first | exact .inl rfl | exact .inr rfl
theorem step_at (m : Msg) (c : UInt8) : (step m c).at_ ≤ m.at_ + 1 := by
  unfold step
  split
  · exact Nat.zero_le _
  · show (takeDo m.tk m c).2.at_ + 1 ≤ m.at_ + 1
    rcases at_takeDo m m.tk c with e | e <;> omega
theorem bite_at (m : Msg) (c : UInt8) : (bite m c).at_ ≤ m.at_ + 1 := by
  unfold bite
  split
  · exact Nat.le_refl _
  · exact step_at m c
end Go.Wb
