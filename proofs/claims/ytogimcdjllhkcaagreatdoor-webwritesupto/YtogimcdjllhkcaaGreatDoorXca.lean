/-
  MESSAGES, plain: no word, and no header, is longer than a head.
-/
import Derived.Test.YtogimcdjllhkcaaGreatDoorXc
namespace Go.Wb
def inHead (t : Tk) (h : Th) : Bool := match t with
  | .inMethod | .inTarget | .inVersion | .atLine | .inName | .inValue | .blankA | .inStatus | .blankB | .inReason => true
  | .lineFeed | .lineEnd => h == .headerLine || h == .headerEnds || h == .emptyLineEnds
  | _ => false
structure Sz (m : Msg) : Prop where
  heads : ∀ p ∈ m.headers, p.1.length ≤ 2048 ∧ p.2.length ≤ 2048
  name : m.name.length ≤ 2048
  hd : inHead m.tk m.th = true → (m.word.length : Int) + m.bound ≤ m.at_ + 2048 ∧ (m.at_ : Int) ≤ m.bound
  nh : inHead m.tk m.th = false → m.word = []
  tr : m.trailers = true → m.word = []
theorem Sz.word {m : Msg} (h : Sz m) : m.word.length ≤ 2048 := by
  cases e : inHead m.tk m.th with
  | true => have := h.hd e; omega
  | false => rw [h.nh e]; exact Nat.zero_le _
/-- In the midst of a step. -/
structure Mid (m : Msg) : Prop where
  heads : ∀ p ∈ m.headers, p.1.length ≤ 2048 ∧ p.2.length ≤ 2048
  name : m.name.length ≤ 2048
  wd : m.word.length ≤ 2048
  tr : m.trailers = true → m.word = []
def InH (m : Msg) : Prop := (m.word.length : Int) + m.bound ≤ m.at_ + 2048 ∧ (m.at_ : Int) < m.bound
theorem sz_fail (m : Msg) (a e : Nat) : Sz (after (fail m a e)) := ⟨(fun p hp => by cases hp), Nat.zero_le _, (fun e => by cases e), (fun _ => rfl), (fun e => by cases e)⟩
theorem sz_refuse (m : Msg) : Sz (after (refuse m)) := sz_fail m _ _
theorem Mid.head {m : Msg} (h : Mid m) (hi : InH m) (s : St) : inHead s.1 s.2 = true → Sz (after (s, m)) := fun e =>
  ⟨h.heads, h.name, (fun _ => ⟨by have := hi.1; show (m.word.length : Int) + m.bound ≤ ((m.at_ + 1 : Nat) : Int) + 2048; omega, by have := hi.2; show ((m.at_ + 1 : Nat) : Int) ≤ m.bound; omega⟩), (fun e' => by change inHead s.1 s.2 = false at e'; rw [e] at e'; cases e'), h.tr⟩
theorem Mid.none {m : Msg} (h : Mid m) (hw : m.word = []) (s : St) (e : inHead s.1 s.2 = false) : Sz (after (s, m)) :=
  ⟨h.heads, h.name, (fun e' => by change inHead s.1 s.2 = true at e'; rw [e] at e'; cases e'), (fun _ => hw), h.tr⟩
theorem Mid.partH {m : Msg} (h : Mid m) (hb : m.bound ≤ m.at_ + 1 + 2048 ∧ (m.at_ : Int) < m.bound) (t : Tk) (e : inHead t .no = true) : Sz (after (part m t)) :=
  ⟨h.heads, h.name, (fun _ => ⟨by show ((0 : Nat) : Int) + m.bound ≤ ((m.at_ + 1 : Nat) : Int) + 2048; omega, by show ((m.at_ + 1 : Nat) : Int) ≤ m.bound; omega⟩), (fun e' => by change inHead t .no = false at e'; rw [e] at e'; cases e'), (fun _ => rfl)⟩
theorem InH.bd {m : Msg} (h : InH m) : m.bound ≤ m.at_ + 1 + 2048 ∧ (m.at_ : Int) < m.bound := by have := h.1; have := h.2; exact ⟨by omega, h.2⟩
theorem Mid.keepH {m : Msg} (h : Mid m) (hi : InH m) (c : UInt8) (s : St) (e : inHead s.1 s.2 = true) : Sz (after (s, keep m c)) := by
  unfold keep
  split
  · exact h.head hi s e
  · rename_i ht
    refine ⟨h.heads, h.name, (fun _ => ⟨?_, by have := hi.2; show ((m.at_ + 1 : Nat) : Int) ≤ m.bound; omega⟩), (fun e' => by change inHead s.1 s.2 = false at e'; rw [e] at e'; cases e'), (fun e' => absurd e' ht)⟩
    have := hi.1
    show ((m.word ++ [c]).length : Int) + m.bound ≤ ((m.at_ + 1 : Nat) : Int) + 2048
    rw [List.length_append]
    simp only [List.length_singleton]
    omega
theorem trimR_len (l : List UInt8) : (trimR l).length ≤ l.length := by
  unfold trimR Lib.trimRightS
  rw [List.length_reverse]
  refine Nat.le_trans (List.dropWhile_sublist _).length_le ?_
  rw [List.length_reverse]
  exact Nat.le_refl _
theorem Mid.headEnds {m : Msg} (h : Mid m) (hw : m.word = []) : Sz (after (headEnds m)) := by
  unfold Wb.headEnds
  split
  · exact sz_fail _ _ _
  · split
    · exact Mid.none (m := { m with last := isLast m }) ⟨h.heads, h.name, h.wd, h.tr⟩ hw _ rfl
    · split
      · exact ⟨h.heads, h.name, (fun e => by cases e), (fun _ => rfl), (fun _ => rfl)⟩
      · exact Mid.none (m := { m with last := isLast m, left := (frame m).1 }) ⟨h.heads, h.name, h.wd, h.tr⟩ hw _ rfl
theorem Mid.thenDo {m : Msg} (h : Mid m) (t : Th) (hi : inHead .lineFeed t = true ∨ t = .requestLineEnds ∨ t = .statusFollows → InH m) (hn : inHead .lineFeed t = false → t = .aheadAgain ∨ t = .sizeLine ∨ t = .sizeLineEnds → m.word = []) (h0 : t ≠ .no) : Sz (after (Wb.thenDo t m)) := by
  cases t with
  | no => exact absurd rfl h0
  | aheadAgain => exact h.none (hn rfl (.inl rfl)) _ rfl
  | headerLine => exact h.partH (hi (.inl rfl)).bd .atLine rfl
  | headerEnds =>
    have hI := hi (.inl rfl)
    show Sz (after (headerEnds m))
    unfold headerEnds
    split
    · exact h.partH hI.bd .atLine rfl
    · refine Mid.partH (m := { m with headers := m.headers ++ [(m.name, trimR m.word)] }) ⟨fun p hp => ?_, h.name, h.wd, h.tr⟩ hI.bd .atLine rfl
      rcases List.mem_append.1 hp with hp | hp
      · exact h.heads p hp
      · rw [List.mem_singleton.1 hp]; exact ⟨h.name, Nat.le_trans (trimR_len _) h.wd⟩
  | emptyLineEnds =>
    show Sz (after (emptyLineEnds m))
    unfold emptyLineEnds
    split
    · rename_i ht; exact h.none (h.tr ht) _ rfl
    · exact Mid.headEnds (m := { m with bound := -1, word := [], name := [] }) ⟨h.heads, Nat.zero_le _, Nat.zero_le _, fun _ => rfl⟩ rfl
  | requestLineEnds => exact h.head (hi (.inr (.inl rfl))) _ rfl
  | statusFollows => exact h.head (hi (.inr (.inr rfl))) _ rfl
  | sizeLine => exact ⟨h.heads, h.name, (fun e => by cases e), (fun _ => rfl), (fun _ => rfl)⟩
  | sizeLineEnds =>
    have hw := hn rfl (.inr (.inr rfl))
    show Sz (after (sizeLineEnds m))
    unfold sizeLineEnds
    split
    · exact sz_fail _ _ _
    · split
      · refine Mid.partH (m := { m with trailers := true, lines := 0, bound := m.at_ + 1 + 2048 }) ⟨h.heads, h.name, h.wd, fun _ => hw⟩ ⟨?_, ?_⟩ .atLine rfl
        · show (m.at_ : Int) + 1 + 2048 ≤ (m.at_ : Int) + 1 + 2048; omega
        · show (m.at_ : Int) < (m.at_ : Int) + 1 + 2048; omega
      · exact Mid.none (m := { m with left := m.size }) ⟨h.heads, h.name, h.wd, h.tr⟩ hw _ rfl
theorem Mid.inMethod {m : Msg} (h : Mid m) (hi : InH m) (c : UInt8) : Sz (after (Wb.inMethod m c)) := by
  unfold Wb.inMethod
  split
  · exact h.keepH hi c _ rfl
  · split
    · exact Mid.partH (m := { m with method := m.word }) ⟨h.heads, h.name, h.wd, h.tr⟩ hi.bd .inTarget rfl
    · exact sz_refuse m
theorem Mid.inName {m : Msg} (h : Mid m) (hi : InH m) (c : UInt8) : Sz (after (Wb.inName m c)) := by
  unfold Wb.inName
  split
  · exact h.keepH hi _ _ rfl
  · split
    · exact Mid.partH (m := { m with name := m.word }) ⟨h.heads, h.wd, h.wd, h.tr⟩ hi.bd .inValue rfl
    · exact sz_refuse m
theorem Sz.takeDo {m : Msg} (h : Sz m) (c : UInt8) (hb : (m.at_ : Int) ≠ m.bound) (hok : Ok m) : Sz (after (takeDo m.tk m c)) := by
  have hM : Mid m := ⟨h.heads, h.name, h.word, h.tr⟩
  have hI : inHead m.tk m.th = true → InH m := fun e => by have := h.hd e; exact ⟨this.1, by omega⟩
  cases ht : m.tk with
  | no => exact hM.none (h.nh (by rw [ht]; rfl)) _ rfl
  | ahead =>
    have hw := h.nh (by rw [ht]; rfl)
    show Sz (after (ahead m c))
    unfold ahead
    split
    · exact hM.none hw _ rfl
    · refine Mid.inMethod (m := { m with bound := m.at_ + 2048 }) ⟨h.heads, h.name, h.word, h.tr⟩ ⟨?_, ?_⟩ c
      · show (m.word.length : Int) + ((m.at_ : Int) + 2048) ≤ (m.at_ : Int) + 2048
        rw [hw]; simp
      · show (m.at_ : Int) < (m.at_ : Int) + 2048; omega
  | inMethod => exact hM.inMethod (hI (by rw [ht]; rfl)) c
  | inTarget =>
    have hi := hI (by rw [ht]; rfl)
    show Sz (after (inTarget m c))
    unfold inTarget
    repeat' split
    · exact sz_refuse m
    · exact ⟨h.heads, h.name, (fun _ => ⟨by have := hi.1; show ((0 : Nat) : Int) + m.bound ≤ ((m.at_ + 1 : Nat) : Int) + 2048; omega, by have := hi.2; show ((m.at_ + 1 : Nat) : Int) ≤ m.bound; omega⟩), (fun e => by cases e), (fun _ => rfl)⟩
    · exact sz_refuse m
    · exact sz_fail _ _ _
    · exact hM.keepH hi c _ (by rw [ht]; rfl)
  | inVersion =>
    have hi := hI (by rw [ht]; rfl)
    have hv := (hok.ver ht).2
    show Sz (after (inVersion m c))
    unfold inVersion
    repeat' split
    · exact sz_refuse m
    · exact hM.keepH hi c _ (by rw [ht]; rfl)
    · exact sz_fail _ _ _
    · have hk := hM.keepH hi c (.atLine, .no) rfl
      rcases hv with e | e
      · rw [e]; exact ⟨hk.heads, hk.name, (fun _ => hk.hd rfl), (fun e => by cases e), hk.tr⟩
      · rw [e]; exact ⟨hk.heads, hk.name, (fun _ => hk.hd rfl), (fun e => by cases e), hk.tr⟩
  | lineEnd =>
    show Sz (after (lineEnd m c))
    unfold lineEnd
    split
    · have e2 : inHead .lineFeed m.th = inHead m.tk m.th := by rw [ht]; rfl
      cases e : inHead m.tk m.th with
      | true => exact hM.head (hI e) _ (by show inHead .lineFeed m.th = true; rw [e2, e])
      | false => exact hM.none (h.nh e) _ (by show inHead .lineFeed m.th = false; rw [e2, e])
    · exact sz_refuse m
  | lineFeed =>
    show Sz (after (lineFeed m c))
    unfold lineFeed
    have hf := hok.feed (.inl ht)
    split
    · refine hM.thenDo _ (fun e => ?_) (fun e _ => h.nh (by rw [ht]; exact e)) hf.1
      rcases e with e | e | e
      · exact hI (by rw [ht]; exact e)
      · exact absurd e hf.2.1
      · exact absurd e hf.2.2
    · exact sz_refuse m
  | atLine =>
    have hi := hI (by rw [ht]; rfl)
    show Sz (after (atLine m c))
    unfold atLine
    repeat' split
    · exact hM.head hi _ rfl
    · exact sz_fail _ _ _
    · exact Mid.inName (m := { m with lines := m.lines + 1 }) ⟨h.heads, h.name, h.word, h.tr⟩ hi c
  | inName => exact hM.inName (hI (by rw [ht]; rfl)) c
  | inValue =>
    have hi := hI (by rw [ht]; rfl)
    show Sz (after (inValue m c))
    unfold inValue
    repeat' split
    · exact hM.head hi _ rfl
    · exact hM.head hi _ (by rw [ht]; rfl)
    · exact hM.keepH hi c _ (by rw [ht]; rfl)
    · exact sz_refuse m
  | inSize =>
    have hw := h.nh (by rw [ht]; rfl)
    show Sz (after (inSize m c))
    unfold inSize
    repeat' split
    · exact sz_fail _ _ _
    · rename_i d _; exact Mid.none (m := { m with size := grown m.most m.size 16 d }) ⟨h.heads, h.name, h.word, h.tr⟩ hw (m.tk, m.th) (by rw [ht]; rfl)
    · exact sz_refuse m
    · exact hM.none hw _ rfl
    · exact hM.none hw _ rfl
    · exact sz_refuse m
  | inExt =>
    have hw := h.nh (by rw [ht]; rfl)
    show Sz (after (inExt m c))
    unfold inExt
    repeat' split
    · exact sz_fail _ _ _
    · exact hM.none hw _ rfl
    · exact hM.none hw _ (by rw [ht]; rfl)
    · exact sz_refuse m
  | blankA =>
    have hi := hI (by rw [ht]; rfl)
    show Sz (after (blankA m c))
    unfold blankA
    split
    · exact hM.partH hi.bd .inStatus rfl
    · exact sz_refuse m
  | inStatus =>
    have hi := hI (by rw [ht]; rfl)
    show Sz (after (inStatus m c))
    unfold inStatus
    repeat' split
    · exact sz_refuse m
    · exact Mid.head (m := { m with status := m.status * 10 + (c.toNat - 48) }) ⟨h.heads, h.name, h.word, h.tr⟩ hi (m.tk, m.th) (by rw [ht]; rfl)
    · exact Mid.head (m := { m with status := m.status * 10 + (c.toNat - 48) }) ⟨h.heads, h.name, h.word, h.tr⟩ hi (.blankB, .no) rfl
    · exact sz_fail _ _ _
  | blankB =>
    have hi := hI (by rw [ht]; rfl)
    show Sz (after (blankB m c))
    unfold blankB
    split
    · exact hM.head hi _ rfl
    · exact sz_refuse m
  | inReason =>
    have hi := hI (by rw [ht]; rfl)
    show Sz (after (inReason m c))
    unfold inReason
    repeat' split
    · exact hM.head hi _ rfl
    · exact hM.head hi _ (by rw [ht]; rfl)
    · exact sz_refuse m
/-- Behind a state function: behind bytes of a chunk a size line comes. -/
def Bod2 (o : Out) : Prop := 0 < o.2.left → o.1.1 = .lineEnd → o.1.2 = .sizeLine
theorem bodb_fail (m : Msg) (a e : Nat) : Bod2 (fail m a e) := fun h => absurd h (Nat.lt_irrefl 0)
theorem bodb_refuse (m : Msg) : Bod2 (refuse m) := fun h => absurd h (Nat.lt_irrefl 0)
theorem bodb_of {o : Out} (h : o.2.left = 0) : Bod2 o := fun e => by rw [h] at e; exact absurd e (Nat.lt_irrefl 0)
theorem bodb_headEnds (m : Msg) (h : m.left = 0) : Bod2 (headEnds m) := by
  unfold headEnds
  split
  · exact bodb_fail _ _ _
  · split
    · exact bodb_of h
    · split
      · exact bodb_of h
      · exact fun _ e => by cases e
theorem bodb_thenDo (m : Msg) (t : Th) (h : m.left = 0) : Bod2 (thenDo t m) := by
  cases t with
  | headerEnds =>
    show Bod2 (headerEnds m)
    unfold headerEnds
    split <;> exact bodb_of h
  | emptyLineEnds =>
    show Bod2 (emptyLineEnds m)
    unfold emptyLineEnds
    split
    · exact bodb_of h
    · exact bodb_headEnds _ h
  | sizeLineEnds =>
    show Bod2 (sizeLineEnds m)
    unfold sizeLineEnds
    split
    · exact bodb_fail _ _ _
    · split
      · exact bodb_of h
      · exact fun _ _ => rfl
  | _ => exact bodb_of h
theorem bodb_inMethod (m : Msg) (c : UInt8) (h : m.left = 0) : Bod2 (inMethod m c) := by
  unfold inMethod
  split
  · exact bodb_of ((keep_left m c).trans h)
  · split
    · exact bodb_of h
    · exact bodb_refuse m
theorem bodb_inName (m : Msg) (c : UInt8) (h : m.left = 0) : Bod2 (inName m c) := by
  unfold inName
  split
  · exact bodb_of ((keep_left m _).trans h)
  · split
    · exact bodb_of h
    · exact bodb_refuse m
theorem bodb_takeDo (m : Msg) (c : UInt8) (h : m.left = 0) : Bod2 (takeDo m.tk m c) := by
  cases m.tk with
  | no => exact bodb_of h
  | ahead =>
    show Bod2 (ahead m c)
    unfold ahead
    split
    · exact bodb_of h
    · exact bodb_inMethod _ c h
  | inMethod => exact bodb_inMethod m c h
  | inTarget =>
    show Bod2 (inTarget m c)
    unfold inTarget
    repeat' split
    · exact bodb_refuse m
    · exact bodb_of h
    · exact bodb_refuse m
    · exact bodb_fail _ _ _
    · exact bodb_of ((keep_left m _).trans h)
  | inVersion =>
    show Bod2 (inVersion m c)
    unfold inVersion
    repeat' split
    · exact bodb_refuse m
    · exact bodb_of ((keep_left m _).trans h)
    · exact bodb_fail _ _ _
    · exact bodb_thenDo _ _ ((keep_left m _).trans h)
  | lineEnd =>
    show Bod2 (lineEnd m c)
    unfold lineEnd
    split
    · exact bodb_of h
    · exact bodb_refuse m
  | lineFeed =>
    show Bod2 (lineFeed m c)
    unfold lineFeed
    split
    · exact bodb_thenDo _ _ h
    · exact bodb_refuse m
  | atLine =>
    show Bod2 (atLine m c)
    unfold atLine
    repeat' split
    · exact bodb_of h
    · exact bodb_fail _ _ _
    · exact bodb_inName _ c h
  | inName => exact bodb_inName m c h
  | inValue =>
    show Bod2 (inValue m c)
    unfold inValue
    repeat' split
    · exact bodb_of h
    · exact bodb_of h
    · exact bodb_of ((keep_left m _).trans h)
    · exact bodb_refuse m
  | inSize =>
    show Bod2 (inSize m c)
    unfold inSize
    repeat' split
    · exact bodb_fail _ _ _
    · exact bodb_of h
    · exact bodb_refuse m
    · exact bodb_of h
    · exact bodb_of h
    · exact bodb_refuse m
  | inExt =>
    show Bod2 (inExt m c)
    unfold inExt
    repeat' split
    · exact bodb_fail _ _ _
    · exact bodb_of h
    · exact bodb_of h
    · exact bodb_refuse m
  | blankA =>
    show Bod2 (blankA m c)
    unfold blankA
    split
    · exact bodb_of h
    · exact bodb_refuse m
  | inStatus =>
    show Bod2 (inStatus m c)
    unfold inStatus
    repeat' split
    · exact bodb_refuse m
    · exact bodb_of h
    · exact bodb_of h
    · exact bodb_fail _ _ _
  | blankB =>
    show Bod2 (blankB m c)
    unfold blankB
    split
    · exact bodb_of h
    · exact bodb_refuse m
  | inReason =>
    show Bod2 (inReason m c)
    unfold inReason
    repeat' split
    · exact bodb_of h
    · exact bodb_of h
    · exact bodb_refuse m
theorem sz_faulty (a e : Nat) : Sz (faulty a e) := ⟨(fun p hp => by cases hp), Nat.zero_le _, (fun e => by cases e), (fun _ => rfl), (fun e => by cases e)⟩
theorem Sz.step {m : Msg} (h : Sz m) (c : UInt8) (hok : Ok m) : Sz (step m c) := by
  unfold Wb.step
  split
  · exact sz_faulty _ _
  · rename_i hb; exact h.takeDo c hb hok
theorem Sz.fill {m : Msg} (h : Sz m) (hp : 0 < m.left) (hb : 0 < m.left → m.tk = .no ∨ m.tk = .lineEnd) (ht : m.tk = .lineEnd → m.th = .sizeLine) (bd : List UInt8) (l k : Nat) : Sz { m with body := bd, left := l, at_ := k } := by
  have hn : inHead m.tk m.th = false := by
    rcases hb hp with e | e
    · rw [e]; rfl
    · rw [e, ht e]; rfl
  exact ⟨h.heads, h.name, (fun e => by change inHead m.tk m.th = true at e; rw [hn] at e; cases e), (fun _ => h.nh hn), h.tr⟩
end Go.Wb
