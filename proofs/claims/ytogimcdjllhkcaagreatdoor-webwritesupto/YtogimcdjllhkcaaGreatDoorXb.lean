/-
  MESSAGES, plain: what is kept to by all of them.
-/
import Derived.Test.YtogimcdjllhkcaaGreatDoorXa
namespace Go.Wb
/-- Bounds of a message's parts, k bytes having come. -/
structure Ok0 (m : Msg) (k : Nat) : Prop where
  word : m.word.length ≤ k
  body : m.body.length ≤ k
  heads : m.headers.length ≤ k
  lines : m.lines ≤ 32
  status : m.status ≤ 999
  size : m.size ≤ 16000000015
  most : m.most ≤ 999999999
  left : m.left ≤ 999999999
  frm : m.frm ≤ k
  nos : m.name.length ≤ k
structure Ok (m : Msg) : Prop where
  ok : Ok0 m m.at_
  inS : m.tk = .inStatus → m.at_ < m.frm + 3 ∧ m.status < 10 ^ (m.at_ - m.frm)
  ver : m.tk = .inVersion → m.word.length < 8 ∧ (m.th = .requestLineEnds ∨ m.th = .statusFollows)
  feed : m.tk = .lineFeed ∨ m.tk = .lineEnd → m.th ≠ .no ∧ m.th ≠ .requestLineEnds ∧ m.th ≠ .statusFollows
/-- The message behind a state function. -/
def after (o : Out) : Msg := { o.2 with tk := o.1.1, th := o.1.2, at_ := o.2.at_ + 1 }
theorem ok_faulty (a e : Nat) : Ok (faulty a e) := ⟨⟨Nat.zero_le _, Nat.zero_le _, Nat.zero_le _, Nat.zero_le _, Nat.zero_le _, Nat.zero_le _, Nat.zero_le _, Nat.zero_le _, Nat.zero_le _, Nat.zero_le _⟩, (fun e => by cases e), (fun e => by cases e), (fun e => by rcases e with e | e <;> cases e)⟩
theorem ok_zero : Ok zero := ok_faulty 0 0
theorem ok_fail (m : Msg) (a e : Nat) : Ok (after (fail m a e)) := ⟨⟨Nat.zero_le _, Nat.zero_le _, Nat.zero_le _, Nat.zero_le _, Nat.zero_le _, Nat.zero_le _, Nat.zero_le _, Nat.zero_le _, Nat.zero_le _, Nat.zero_le _⟩, (fun e => by cases e), (fun e => by cases e), (fun e => by rcases e with e | e <;> cases e)⟩
theorem ok_refuse (m : Msg) : Ok (after (refuse m)) := ok_fail m _ _
theorem Ok0.up {m : Msg} {k n : Nat} (h : Ok0 m k) (hn : k ≤ n) : Ok0 m n := ⟨Nat.le_trans h.word hn, Nat.le_trans h.body hn, Nat.le_trans h.heads hn, h.lines, h.status, h.size, h.most, h.left, Nat.le_trans h.frm hn, Nat.le_trans h.nos hn⟩
/-- A state that asks for nothing more. -/
theorem Ok0.same {m : Msg} (h : Ok0 m m.at_) (s : St) (h1 : s.1 ≠ .inStatus) (h2 : s.1 ≠ .inVersion) (h3 : s.1 = .lineFeed ∨ s.1 = .lineEnd → s.2 ≠ .no ∧ s.2 ≠ .requestLineEnds ∧ s.2 ≠ .statusFollows) : Ok (after (s, m)) :=
  ⟨⟨Nat.le_succ_of_le h.word, Nat.le_succ_of_le h.body, Nat.le_succ_of_le h.heads, h.lines, h.status, h.size, h.most, h.left, Nat.le_succ_of_le h.frm, Nat.le_succ_of_le h.nos⟩, fun e => absurd e h1, fun e => absurd e h2, h3⟩
theorem Ok0.part {m : Msg} (h : Ok0 m m.at_) (t : Tk) (h1 : t ≠ .inStatus ∨ m.status = 0) (h2 : t ≠ .inVersion) (h3 : t ≠ .lineFeed ∧ t ≠ .lineEnd) : Ok (after (part m t)) :=
  ⟨⟨Nat.zero_le _, Nat.le_succ_of_le h.body, Nat.le_succ_of_le h.heads, h.lines, h.status, h.size, h.most, h.left, Nat.le_refl _, Nat.le_succ_of_le h.nos⟩, fun e => by
    rcases h1 with h1 | h1
    · exact absurd e h1
    · refine ⟨by show m.at_ + 1 < m.at_ + 1 + 3; omega, ?_⟩
      show m.status < 10 ^ (m.at_ + 1 - (m.at_ + 1))
      rw [h1]; exact Nat.pow_pos (by omega), (fun e => absurd e h2), (fun e => by rcases e with e | e; exact absurd e h3.1; exact absurd e h3.2)⟩
theorem Ok0.keep {m : Msg} (h : Ok0 m m.at_) (c : UInt8) (s : St) (h1 : s.1 ≠ .inStatus) (h2 : s.1 = .inVersion → (Wb.keep m c).word.length < 8 ∧ (s.2 = .requestLineEnds ∨ s.2 = .statusFollows)) (h3 : s.1 ≠ .lineFeed ∧ s.1 ≠ .lineEnd) : Ok (after (s, Wb.keep m c)) := by
  refine ⟨?_, fun e => absurd e h1, h2, fun e => by rcases e with e | e; exact absurd e h3.1; exact absurd e h3.2⟩
  unfold Wb.keep
  split
  · exact ⟨Nat.le_succ_of_le h.word, Nat.le_succ_of_le h.body, Nat.le_succ_of_le h.heads, h.lines, h.status, h.size, h.most, h.left, Nat.le_succ_of_le h.frm, Nat.le_succ_of_le h.nos⟩
  · refine ⟨?_, Nat.le_succ_of_le h.body, Nat.le_succ_of_le h.heads, h.lines, h.status, h.size, h.most, h.left, Nat.le_succ_of_le h.frm, Nat.le_succ_of_le h.nos⟩
    show (m.word ++ [c]).length ≤ m.at_ + 1
    rw [List.length_append]; exact Nat.succ_le_succ h.word
theorem ok_sizeLine {m : Msg} (h : Ok0 m m.at_) : Ok (after (sizeLine m)) :=
  Ok0.part (m := { m with size := 0 }) ⟨h.word, h.body, h.heads, h.lines, h.status, Nat.zero_le _, h.most, h.left, h.frm, h.nos⟩ .inSize (.inl (by decide)) (by decide) ⟨by decide, by decide⟩
theorem ok_headerLine {m : Msg} (h : Ok0 m m.at_) : Ok (after (headerLine m)) := h.part .atLine (.inl (by decide)) (by decide) ⟨by decide, by decide⟩
theorem frame_le (m : Msg) : (frame m).1 ≤ m.most := by
  unfold frame
  split; exact Nat.zero_le _
  split; exact Nat.zero_le _
  split; exact Nat.zero_le _
  split; exact Nat.zero_le _
  split; exact Nat.zero_le _
  split; exact Nat.zero_le _
  rename_i h; exact Nat.le_of_not_lt h
theorem ok_headEnds {m : Msg} (h : Ok0 m m.at_) : Ok (after (headEnds m)) := by
  have hf := frame_le m
  have hm := h.most
  unfold headEnds
  split
  · exact ok_fail _ _ _
  · split
    · exact Ok0.same (m := { m with last := isLast m }) ⟨h.word, h.body, h.heads, h.lines, h.status, h.size, h.most, h.left, h.frm, h.nos⟩ _ (by decide) (by decide) (fun e => by rcases e with e | e <;> cases e)
    · split
      · exact ok_sizeLine (m := { m with last := isLast m }) ⟨h.word, h.body, h.heads, h.lines, h.status, h.size, h.most, h.left, h.frm, h.nos⟩
      · exact Ok0.same (m := { m with last := isLast m, left := (frame m).1 }) ⟨h.word, h.body, h.heads, h.lines, h.status, h.size, h.most, Nat.le_trans hf hm, h.frm, h.nos⟩ _ (by decide) (by decide) (fun e => by rcases e with e | e <;> cases e)
theorem ok_sizeLineEnds {m : Msg} (h : Ok0 m m.at_) : Ok (after (sizeLineEnds m)) := by
  have hm := h.most
  unfold sizeLineEnds
  split
  · exact ok_fail _ _ _
  · rename_i h1
    split
    · exact ok_headerLine (m := { m with trailers := true, lines := 0, bound := m.at_ + 1 + 2048 }) ⟨h.word, h.body, h.heads, Nat.zero_le _, h.status, h.size, h.most, h.left, h.frm, h.nos⟩
    · exact Ok0.same (m := { m with left := m.size }) ⟨h.word, h.body, h.heads, h.lines, h.status, h.size, h.most, by show m.size ≤ _; omega, h.frm, h.nos⟩ _ (by decide) (by decide) (fun _ => ⟨by decide, by decide, by decide⟩)
theorem ok_headerEnds {m : Msg} (h : Ok0 m m.at_) : Ok (after (headerEnds m)) := by
  unfold headerEnds
  split
  · exact ok_headerLine h
  · have h1 := h.heads
    refine ⟨⟨Nat.zero_le _, Nat.le_succ_of_le h.body, ?_, h.lines, h.status, h.size, h.most, h.left, Nat.le_refl _, Nat.le_succ_of_le h.nos⟩, (fun e => by cases e), (fun e => by cases e), (fun e => by rcases e with e | e <;> cases e)⟩
    show (m.headers ++ [(m.name, trimR m.word)]).length ≤ m.at_ + 1
    rw [List.length_append]; exact Nat.succ_le_succ h1
theorem ok_emptyLineEnds {m : Msg} (h : Ok0 m m.at_) : Ok (after (emptyLineEnds m)) := by
  unfold emptyLineEnds
  split
  · exact h.same _ (by decide) (by decide) (fun e => by rcases e with e | e <;> cases e)
  · exact ok_headEnds (m := { m with bound := -1, word := [], name := [] }) ⟨Nat.zero_le _, h.body, h.heads, h.lines, h.status, h.size, h.most, h.left, h.frm, Nat.zero_le _⟩
theorem ok_thenDo {m : Msg} (h : Ok0 m m.at_) (t : Th) : Ok (after (thenDo t m)) := by
  cases t with
  | no => exact h.same _ (by decide) (by decide) (fun e => by rcases e with e | e <;> cases e)
  | aheadAgain => exact h.same _ (by decide) (by decide) (fun e => by rcases e with e | e <;> cases e)
  | headerLine => exact ok_headerLine h
  | headerEnds => exact ok_headerEnds h
  | emptyLineEnds => exact ok_emptyLineEnds h
  | requestLineEnds => exact h.same _ (by decide) (by decide) (fun _ => ⟨by decide, by decide, by decide⟩)
  | statusFollows => exact h.same _ (by decide) (by decide) (fun e => by rcases e with e | e <;> cases e)
  | sizeLine => exact ok_sizeLine h
  | sizeLineEnds => exact ok_sizeLineEnds h
theorem ok_inName {m : Msg} (h : Ok0 m m.at_) (c : UInt8) : Ok (after (inName m c)) := by
  unfold inName
  split
  · exact h.keep _ _ (by decide) (fun e => by cases e) ⟨by decide, by decide⟩
  · split
    · exact Ok0.part (m := { m with name := m.word }) ⟨h.word, h.body, h.heads, h.lines, h.status, h.size, h.most, h.left, h.frm, h.word⟩ .inValue (.inl (by decide)) (by decide) ⟨by decide, by decide⟩
    · exact ok_refuse m
theorem ok_inMethod {m : Msg} (h : Ok0 m m.at_) (c : UInt8) : Ok (after (inMethod m c)) := by
  unfold inMethod
  split
  · exact h.keep _ _ (by decide) (fun e => by cases e) ⟨by decide, by decide⟩
  · split
    · exact Ok0.part (m := { m with method := m.word }) ⟨h.word, h.body, h.heads, h.lines, h.status, h.size, h.most, h.left, h.frm, h.nos⟩ .inTarget (.inl (by decide)) (by decide) ⟨by decide, by decide⟩
    · exact ok_refuse m
theorem grown_le {most n base d : Nat} (hn : n ≤ 16000000015) (hm : most ≤ 999999999) (hb : base ≤ 16) (hd : d ≤ 15) : grown most n base d ≤ 16000000015 := by
  unfold grown
  split
  · exact hn
  · have : n * base ≤ n * 16 := Nat.mul_le_mul_left _ hb
    omega
theorem hexd_le {c : UInt8} {d : Nat} (h : hexd c = some d) : d ≤ 15 := by
  unfold hexd at h
  split at h
  · rename_i h1
    simp only [dig, Bool.and_eq_true, decide_eq_true_eq] at h1
    injection h with h; omega
  · split at h
    · injection h with h; omega
    · cases h
theorem dig_sub {c : UInt8} (h : dig c = true) : c.toNat - 48 ≤ 9 ∧ 48 ≤ c.toNat := by
  simp only [dig, Bool.and_eq_true, decide_eq_true_eq] at h
  omega
theorem ok_takeDo {m : Msg} (h : Ok m) (c : UInt8) (hS : m.tk = .blankA → m.status = 0) : Ok (after (takeDo m.tk m c)) := by
  have h0 := h.ok
  have hsame : m.tk ≠ .inStatus → m.tk ≠ .inVersion → m.tk ≠ .lineFeed ∧ m.tk ≠ .lineEnd → Ok (after ((m.tk, m.th), m)) := fun a b d => h0.same _ a b fun e => by rcases e with e | e; exact absurd e d.1; exact absurd e d.2
  cases ht : m.tk with
  | no => exact h0.same _ (by decide) (by decide) (fun e => by rcases e with e | e <;> cases e)
  | ahead =>
    show Ok (after (ahead m c))
    unfold ahead
    split
    · exact h0.same _ (by decide) (by decide) (fun _ => ⟨by decide, by decide, by decide⟩)
    · exact ok_inMethod (m := { m with bound := m.at_ + 2048 }) ⟨h0.word, h0.body, h0.heads, h0.lines, h0.status, h0.size, h0.most, h0.left, h0.frm, h0.nos⟩ c
  | inMethod => exact ok_inMethod h0 c
  | inTarget =>
    show Ok (after (inTarget m c))
    unfold inTarget
    split
    · exact ok_refuse m
    · split
      · exact ⟨⟨Nat.zero_le _, Nat.le_succ_of_le h0.body, Nat.le_succ_of_le h0.heads, h0.lines, h0.status, h0.size, h0.most, h0.left, Nat.le_refl _, Nat.le_succ_of_le h0.nos⟩, (fun e => by cases e), (fun _ => ⟨by show 0 < 8; omega, .inl rfl⟩), (fun e => by rcases e with e | e <;> cases e)⟩
      · split
        · exact ok_refuse m
        · split
          · exact ok_fail m _ _
          · exact h0.keep c _ (by rw [ht]; intro e; cases e) (fun e => by rw [ht] at e; cases e) ⟨(by rw [ht]; intro e; cases e), (by rw [ht]; intro e; cases e)⟩
  | inVersion =>
    show Ok (after (inVersion m c))
    have hv := h.ver ht
    unfold inVersion
    split
    · exact ok_refuse m
    · split
      · rename_i h8
        exact h0.keep c _ (by rw [ht]; intro e; cases e) (fun _ => ⟨h8, hv.2⟩) ⟨(by rw [ht]; intro e; cases e), (by rw [ht]; intro e; cases e)⟩
      · split
        · exact ok_fail m _ _
        · have hk : Ok0 (keep m c) ((keep m c).at_ + 1) := (h0.keep c (.no, .no) (by decide) (fun e => by cases e) ⟨by decide, by decide⟩).ok.1 |> fun _ => by
            have h1 := (h0.keep c (.no, .no) (by decide) (fun e => by cases e) ⟨by decide, by decide⟩).ok
            exact ⟨h1.word, h1.body, h1.heads, h1.lines, h1.status, h1.size, h1.most, h1.left, h1.frm, h1.nos⟩
          rcases hv.2 with e | e
          · rw [e]
            exact ⟨⟨hk.word, hk.body, hk.heads, hk.lines, hk.status, hk.size, hk.most, hk.left, hk.frm, hk.nos⟩, (fun e => by cases e), (fun e => by cases e), (fun _ => ⟨by show Th.headerLine ≠ .no; decide, by show Th.headerLine ≠ _; decide, by show Th.headerLine ≠ _; decide⟩)⟩
          · rw [e]
            exact ⟨⟨hk.word, hk.body, hk.heads, hk.lines, hk.status, hk.size, hk.most, hk.left, hk.frm, hk.nos⟩, (fun e => by cases e), (fun e => by cases e), (fun e => by rcases e with e | e <;> cases e)⟩
  | lineEnd =>
    show Ok (after (lineEnd m c))
    unfold lineEnd
    split
    · exact h0.same _ (fun e => by cases e) (fun e => by cases e) (fun _ => h.feed (.inr ht))
    · exact ok_refuse m
  | lineFeed =>
    show Ok (after (lineFeed m c))
    unfold lineFeed
    split
    · exact ok_thenDo h0 _
    · exact ok_refuse m
  | atLine =>
    show Ok (after (atLine m c))
    unfold atLine
    split
    · exact h0.same _ (by decide) (by decide) (fun _ => ⟨by decide, by decide, by decide⟩)
    · split
      · exact ok_fail m _ _
      · exact ok_inName (m := { m with lines := m.lines + 1 }) ⟨h0.word, h0.body, h0.heads, by have := h0.lines; show m.lines + 1 ≤ 32; omega, h0.status, h0.size, h0.most, h0.left, h0.frm, h0.nos⟩ c
  | inName => exact ok_inName h0 c
  | inValue =>
    show Ok (after (inValue m c))
    unfold inValue
    split
    · exact h0.same _ (by decide) (by decide) (fun _ => ⟨by decide, by decide, by decide⟩)
    · split
      · exact hsame (by rw [ht]; intro e; cases e) (by rw [ht]; intro e; cases e) ⟨(by rw [ht]; intro e; cases e), (by rw [ht]; intro e; cases e)⟩
      · split
        · exact h0.keep c _ (by rw [ht]; intro e; cases e) (fun e => by rw [ht] at e; cases e) ⟨(by rw [ht]; intro e; cases e), (by rw [ht]; intro e; cases e)⟩
        · exact ok_refuse m
  | inSize =>
    show Ok (after (inSize m c))
    unfold inSize
    split
    · exact ok_fail m _ _
    · split
      · rename_i d hd
        exact Ok0.same (m := { m with size := grown m.most m.size 16 d }) ⟨h0.word, h0.body, h0.heads, h0.lines, h0.status, grown_le h0.size h0.most (Nat.le_refl _) (hexd_le hd), h0.most, h0.left, h0.frm, h0.nos⟩ _ (by rw [ht]; intro e; cases e) (by rw [ht]; intro e; cases e) (fun e => by rw [ht] at e; rcases e with e | e <;> cases e)
      · split
        · exact ok_refuse m
        · split
          · exact h0.same _ (by decide) (by decide) (fun _ => ⟨by decide, by decide, by decide⟩)
          · split
            · exact h0.same _ (by decide) (by decide) (fun e => by rcases e with e | e <;> cases e)
            · exact ok_refuse m
  | inExt =>
    show Ok (after (inExt m c))
    unfold inExt
    split
    · exact ok_fail m _ _
    · split
      · exact h0.same _ (by decide) (by decide) (fun _ => ⟨by decide, by decide, by decide⟩)
      · split
        · exact hsame (by rw [ht]; intro e; cases e) (by rw [ht]; intro e; cases e) ⟨(by rw [ht]; intro e; cases e), (by rw [ht]; intro e; cases e)⟩
        · exact ok_refuse m
  | blankA =>
    show Ok (after (blankA m c))
    unfold blankA
    split
    · exact h0.part .inStatus (.inr (hS ht)) (by decide) ⟨by decide, by decide⟩
    · exact ok_refuse m
  | inStatus =>
    show Ok (after (inStatus m c))
    obtain ⟨i1, i2⟩ := h.inS ht
    have i3 := h0.frm
    unfold inStatus
    split
    · exact ok_refuse m
    · rename_i hd
      have hd := dig_sub (by simpa using hd)
      have hst : m.status * 10 + (c.toNat - 48) ≤ 999 := by
        have : m.at_ - m.frm = 0 ∨ m.at_ - m.frm = 1 ∨ m.at_ - m.frm = 2 := by omega
        rcases this with e | e | e <;> rw [e] at i2 <;> omega
      split
      · rename_i h2
        refine ⟨⟨Nat.le_succ_of_le h0.word, Nat.le_succ_of_le h0.body, Nat.le_succ_of_le h0.heads, h0.lines, hst, h0.size, h0.most, h0.left, Nat.le_succ_of_le h0.frm, Nat.le_succ_of_le h0.nos⟩, (fun _ => ⟨by show m.at_ + 1 < m.frm + 3; omega, ?_⟩), (fun e => by change m.tk = _ at e; rw [ht] at e; cases e), (fun e => by change m.tk = _ ∨ m.tk = _ at e; rw [ht] at e; rcases e with e | e <;> cases e)⟩
        show m.status * 10 + (c.toNat - 48) < 10 ^ (m.at_ + 1 - m.frm)
        rw [show m.at_ + 1 - m.frm = (m.at_ - m.frm) + 1 by omega, Nat.pow_succ]
        omega
      · split
        · exact Ok0.same (m := { m with status := m.status * 10 + (c.toNat - 48) }) ⟨h0.word, h0.body, h0.heads, h0.lines, hst, h0.size, h0.most, h0.left, h0.frm, h0.nos⟩ _ (by decide) (by decide) (fun e => by rcases e with e | e <;> cases e)
        · exact ok_fail m _ _
  | blankB =>
    show Ok (after (blankB m c))
    unfold blankB
    split
    · exact h0.same _ (by decide) (by decide) (fun e => by rcases e with e | e <;> cases e)
    · exact ok_refuse m
  | inReason =>
    show Ok (after (inReason m c))
    unfold inReason
    split
    · exact h0.same _ (by decide) (by decide) (fun _ => ⟨by decide, by decide, by decide⟩)
    · split
      · exact hsame (by rw [ht]; intro e; cases e) (by rw [ht]; intro e; cases e) ⟨(by rw [ht]; intro e; cases e), (by rw [ht]; intro e; cases e)⟩
      · exact ok_refuse m
end Go.Wb
