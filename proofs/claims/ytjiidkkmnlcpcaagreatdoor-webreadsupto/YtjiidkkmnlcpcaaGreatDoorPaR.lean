/-
  Laid together by packg.py of WrA WrB WrC WrD WrE WrF WrG WrH WrI WrJ WrK WrL WrM WrN WrO.
-/
import Derived.Test.YtjiidkkmnlcpcaaGreatDoorPaX
namespace Go.Wb
/-- A fault at a place; more bytes are wanted; or what was read, what is left, and the place. -/
inductive Re (α : Type) where
  | bad (at_ err : Nat)
  | more
  | ok (a : α) (r : List UInt8) (i : Nat)
def Re.bind {α β : Type} (x : Re α) (f : α → List UInt8 → Nat → Re β) : Re β := match x with
  | .bad a e => .bad a e
  | .more => .more
  | .ok a r i => f a r i
/-- A message that was refused. -/
def Bad (m : Msg) (a e : Nat) : Prop := m.tk = .no ∧ m.left = 0 ∧ m.fAt = a ∧ m.fErr = e
/-- What the machine makes of the rest of a text is what is told. -/
def Sim {α : Type} (x : Re α) (k : α → Nat → Msg) (m : Msg) (l : List UInt8) : Prop := match x with
  | .bad a e => Bad (rd m l).1 a e
  | .more => (rd m l).1.fErr = 0 ∧ over (rd m l).1 = false ∧ (rd m l).2 = l.length
  | .ok a r i => r.length ≤ l.length ∧ rd m l = ((rd (k a i) r).1, (rd (k a i) r).2 + (l.length - r.length))
theorem Sim.bind {α β : Type} {x : Re α} {f : α → List UInt8 → Nat → Re β} {k : α → Nat → Msg} {k' : β → Nat → Msg} {m : Msg} {l : List UInt8} (h : Sim x k m l) (hf : ∀ a r i, x = .ok a r i → Sim (f a r i) k' (k a i) r) : Sim (x.bind f) k' m l := by
  cases x with
  | bad a e => exact h
  | more => exact h
  | ok a r i =>
    have h2 := hf a r i rfl
    obtain ⟨hl, hr⟩ := h
    show Sim (f a r i) k' m l
    revert h2
    cases f a r i with
    | bad a e =>
      intro h2
      show Bad (rd m l).1 a e
      rw [hr]
      exact h2
    | more =>
      intro h2
      obtain ⟨h3, h4, h5⟩ := h2
      show (rd m l).1.fErr = 0 ∧ over (rd m l).1 = false ∧ (rd m l).2 = l.length
      rw [hr]
      exact ⟨h3, h4, by show _ + _ = _; rw [h5]; omega⟩
    | ok b r2 j =>
      intro h2
      obtain ⟨h3, h4⟩ := h2
      refine ⟨by omega, ?_⟩
      rw [hr, h4]
      simp only [Prod.mk.injEq, true_and]
      omega
theorem Sim.same {α : Type} {x : Re α} {k k' : α → Nat → Msg} {m : Msg} {l : List UInt8} (h : Sim x k m l) (hk : ∀ a r i, x = .ok a r i → k a i = k' a i) : Sim x k' m l := by
  cases x with
  | bad a e => exact h
  | more => exact h
  | ok a r i =>
    obtain ⟨h1, h2⟩ := h
    exact ⟨h1, by rw [← hk a r i rfl]; exact h2⟩
theorem rdD_cons {m : Msg} (h : over m = false) (c : UInt8) (r : List UInt8) : rd m (c :: r) = ((rd (bite m c) r).1, (rd (bite m c) r).2 + 1) := by
  show (if over m = true then _ else _) = _
  rw [h, if_neg (by decide)]
theorem rdD_over {m : Msg} (h : over m = true) (l : List UInt8) : rd m l = (m, 0) := by
  cases l with
  | nil => rfl
  | cons c r =>
    show (if over m = true then _ else _) = _
    rw [if_pos h]
theorem over_tk {m : Msg} (h : m.tk ≠ .no) : over m = false := by
  unfold over
  have : (m.tk == Tk.no) = false := by simpa using h
  rw [this]; rfl
/-- At the end of the bytes more are wanted. -/
theorem Sim.nil {α : Type} {k : α → Nat → Msg} {m : Msg} (h : over m = false) (he : m.fErr = 0) : Sim (.more : Re α) k m [] := ⟨he, h, rfl⟩
/-- A byte with which it is refused. -/
theorem Sim.fault {α : Type} {k : α → Nat → Msg} {m : Msg} {c : UInt8} {r : List UInt8} {a e : Nat} (h : over m = false) (hb : Bad (bite m c) a e) : Sim (.bad a e : Re α) k m (c :: r) := by
  show Bad (rd m (c :: r)).1 a e
  rw [rdD_cons h]
  have ho : over (bite m c) = true := by
    unfold over
    rw [hb.1, hb.2.1]; rfl
  rw [rdD_over ho]
  exact hb
/-- A byte with which it goes on. -/
theorem Sim.step {α : Type} {x : Re α} {k : α → Nat → Msg} {m : Msg} {c : UInt8} {r : List UInt8} (h : over m = false) (hs : Sim x k (bite m c) r) : Sim x k m (c :: r) := by
  cases x with
  | bad a e => show Bad (rd m (c :: r)).1 a e; rw [rdD_cons h]; exact hs
  | more =>
    obtain ⟨h1, h2, h3⟩ := hs
    show (rd m (c :: r)).1.fErr = 0 ∧ over (rd m (c :: r)).1 = false ∧ (rd m (c :: r)).2 = (c :: r).length
    rw [rdD_cons h]
    exact ⟨h1, h2, by show _ + 1 = _; rw [h3]; rfl⟩
  | ok a r2 i =>
    obtain ⟨h1, h2⟩ := hs
    refine ⟨by rw [List.length_cons]; omega, ?_⟩
    rw [rdD_cons h, h2, List.length_cons]
    simp only [Prod.mk.injEq, true_and]
    omega
theorem Sim.here {α : Type} {k : α → Nat → Msg} {m : Msg} {l : List UInt8} {a : α} {i : Nat} (h : k a i = m) : Sim (.ok a l i) k m l := ⟨Nat.le_refl _, by rw [h, Nat.sub_self]; rfl⟩
theorem bite_step {m : Msg} (h : m.left = 0) (c : UInt8) : bite m c = step m c := by
  unfold bite
  rw [h, if_neg (Nat.lt_irrefl 0)]
/-- The bound of the head goes ahead of all. -/
theorem bite_bound {m : Msg} (h : m.left = 0) (hb : (m.at_ : Int) = m.bound) (c : UInt8) : Bad (bite m c) m.at_ 181 := by
  rw [bite_step h]
  unfold step
  rw [if_pos hb]
  exact ⟨rfl, rfl, rfl, rfl⟩
theorem bite_else {m : Msg} (h : m.left = 0) (hb : ¬ (m.at_ : Int) = m.bound) (c : UInt8) : bite m c = { (takeDo m.tk m c).2 with tk := (takeDo m.tk m c).1.1, th := (takeDo m.tk m c).1.2, at_ := (takeDo m.tk m c).2.at_ + 1 } := by
  rw [bite_step h]
  unfold step
  rw [if_neg hb]
theorem bite_fail {m : Msg} (h : m.left = 0) (hb : ¬ (m.at_ : Int) = m.bound) {c : UInt8} {a e : Nat} (ht : takeDo m.tk m c = fail m a e) : Bad (bite m c) a e := by
  rw [bite_else h hb, ht]
  exact ⟨rfl, rfl, rfl, rfl⟩
/-- The document's must: one byte. -/
def mustD (b : Int) (c : UInt8) : List UInt8 → Nat → Re Unit
  | [], _ => .more
  | d :: r, i => if (i : Int) = b then .bad i 181 else if d = c then .ok () r (i + 1) else .bad i 180
theorem mustD_cons (b : Int) (c d : UInt8) (r : List UInt8) (i : Nat) : mustD b c (d :: r) i = if (i : Int) = b then .bad i 181 else if d = c then .ok () r (i + 1) else .bad i 180 := rfl
/-- The document's end: of a line. -/
def endD (b : Int) (l : List UInt8) (i : Nat) : Re Unit := (mustD b 13 l i).bind fun _ r j => mustD b 10 r j
/-- As many bytes as are of a kind. -/
def runD (b : Int) (p : UInt8 → Bool) (acc : List UInt8) : List UInt8 → Nat → Re (List UInt8)
  | [], _ => .more
  | d :: r, i => if (i : Int) = b then .bad i 181 else if p d then runD b p (acc ++ [d]) r (i + 1) else .ok acc (d :: r) i
theorem runD_cons (b : Int) (p : UInt8 → Bool) (acc : List UInt8) (d : UInt8) (r : List UInt8) (i : Nat) : runD b p acc (d :: r) i = if (i : Int) = b then .bad i 181 else if p d then runD b p (acc ++ [d]) r (i + 1) else .ok acc (d :: r) i := rfl
/-- The document's token. -/
def tokenD (b : Int) (l : List UInt8) (i : Nat) : Re (List UInt8) := (runD b tok [] l i).bind fun a r j => if a = [] then .bad j 180 else .ok a r j
/-- The document's bytes. -/
def bytesD (b : Int) (l : List UInt8) (i : Nat) : Re (List UInt8) := runD b txt [] l i
/-- The document's digit. -/
def digitD (b : Int) : List UInt8 → Nat → Re Nat
  | [], _ => .more
  | d :: r, i => if (i : Int) = b then .bad i 181 else if dig d then .ok (d.toNat - 48) r (i + 1) else .bad i 180
/-- A machine's state that waits for one byte. -/
theorem must_sim {b : Int} {c : UInt8} {m : Msg} {k : Unit → Nat → Msg} (l : List UInt8) (ht : m.tk ≠ .no) (hl : m.left = 0) (he : m.fErr = 0) (hb : m.bound = b) (hno : ∀ d, d ≠ c → takeDo m.tk m d = refuse m)
    (hyes : ¬ (m.at_ : Int) = b → bite m c = k () (m.at_ + 1)) : Sim (mustD b c l m.at_) k m l := by
  cases l with
  | nil => exact Sim.nil (over_tk ht) he
  | cons d r =>
    rw [mustD_cons]
    by_cases hi : (m.at_ : Int) = b
    · rw [if_pos hi]
      exact Sim.fault (over_tk ht) (bite_bound hl (by rw [hb]; exact hi) d)
    · rw [if_neg hi]
      by_cases hd : d = c
      · subst hd
        rw [if_pos rfl]
        refine Sim.step (over_tk ht) ?_
        rw [hyes hi]
        exact Sim.here rfl
      · rw [if_neg hd]
        exact Sim.fault (over_tk ht) (bite_fail hl (by rw [hb]; exact hi) (hno d hd))
/-- The line's feed, and what follows. -/
theorem feed_sim {b : Int} {m : Msg} {t : Th} {k : Unit → Nat → Msg} (l : List UInt8) (ht : m.tk = .lineFeed) (hth : m.th = t) (hl : m.left = 0) (he : m.fErr = 0) (hb : m.bound = b)
    (hyes : { (thenDo t m).2 with tk := (thenDo t m).1.1, th := (thenDo t m).1.2, at_ := (thenDo t m).2.at_ + 1 } = k () (m.at_ + 1)) : Sim (mustD b 10 l m.at_) k m l := by
  refine must_sim l (by rw [ht]; decide) hl he hb (fun d hd => ?_) (fun hi => ?_)
  · rw [ht]
    show lineFeed m d = _
    unfold lineFeed
    rw [if_neg]
    intro e
    exact hd (UInt8.toNat_inj.1 e)
  · rw [bite_else hl (by rw [hb]; exact hi), ht]
    show { (lineFeed m 10).2 with tk := (lineFeed m 10).1.1, th := (lineFeed m 10).1.2, at_ := (lineFeed m 10).2.at_ + 1 } = _
    have e : lineFeed m 10 = thenDo t m := by unfold lineFeed; rw [if_pos (show (10 : UInt8).toNat = 10 from rfl), hth]
    rw [e]
    exact hyes
/-- A state that takes bytes of a kind. -/
theorem run_sim {b : Int} {p : UInt8 → Bool} (K : List UInt8 → Nat → Msg) (hK : ∀ acc i, (K acc i).tk ≠ .no ∧ (K acc i).left = 0 ∧ (K acc i).fErr = 0 ∧ (K acc i).bound = b ∧ (K acc i).at_ = i)
    (hp : ∀ (acc : List UInt8) (i : Nat) (d : UInt8), p d = true → ¬ (i : Int) = b → bite (K acc i) d = K (acc ++ [d]) (i + 1)) (l : List UInt8) : ∀ acc i, Sim (runD b p acc l i) K (K acc i) l := by
  induction l with
  | nil =>
    intro acc i
    exact Sim.nil (over_tk (hK acc i).1) (hK acc i).2.2.1
  | cons d r ih =>
    intro acc i
    obtain ⟨h1, h2, h3, h4, h5⟩ := hK acc i
    rw [runD_cons]
    by_cases hi : (i : Int) = b
    · rw [if_pos hi]
      have := bite_bound (m := K acc i) h2 (by rw [h4, h5]; exact hi) d
      rw [h5] at this
      exact Sim.fault (over_tk h1) this
    · rw [if_neg hi]
      by_cases hd : p d = true
      · rw [if_pos hd]
        refine Sim.step (over_tk h1) ?_
        rw [hp acc i d hd hi]
        exact ih (acc ++ [d]) (i + 1)
      · rw [if_neg hd]
        exact Sim.here rfl
/-- What was read of a kind, and what stands behind it. -/
theorem runD_ok {b : Int} {p : UInt8 → Bool} (l : List UInt8) : ∀ acc i a r j, runD b p acc l i = .ok a r j → ∃ d q, r = d :: q ∧ p d = false ∧ ¬ (j : Int) = b ∧ j + acc.length = i + a.length ∧ ∃ x, a = acc ++ x ∧ l = x ++ r ∧ ∀ c ∈ x, p c = true := by
  induction l with
  | nil => intro acc i a r j h; cases h
  | cons d r ih =>
    intro acc i a q j h
    rw [runD_cons] at h
    by_cases hi : (i : Int) = b
    · rw [if_pos hi] at h; cases h
    · rw [if_neg hi] at h
      by_cases hd : p d = true
      · rw [if_pos hd] at h
        obtain ⟨d2, q2, h1, h2, h3, h4, x, h5, h6, h7⟩ := ih _ _ _ _ _ h
        refine ⟨d2, q2, h1, h2, h3, by simp only [List.length_append, List.length_cons, List.length_nil] at h4; omega, d :: x, by rw [h5]; simp, by rw [h6]; rfl, fun c hc => ?_⟩
        rcases List.mem_cons.1 hc with rfl | hc
        · exact hd
        · exact h7 c hc
      · rw [if_neg hd] at h
        injection h with h1 h2 h3
        subst h1 h2 h3
        exact ⟨d, r, rfl, by simpa using hd, hi, by omega, [], by simp, by simp, fun c hc => by cases hc⟩
end Go.Wb
namespace Go.Wb
/-- A machine at the beginning of a line of headers. -/
structure Ln (m : Msg) (b : Int) (i : Nat) : Prop where
  tk : m.tk = .atLine
  th : m.th = .no
  left : m.left = 0
  err : m.fErr = 0
  bound : m.bound = b
  at_ : m.at_ = i
  frm : m.frm = i
  word : m.word = []
/-- In a header's name. -/
def nmK (m : Msg) (acc : List UInt8) (i : Nat) : Msg := { m with lines := m.lines + 1, tk := .inName, th := .no, word := if m.trailers then [] else acc.map sm, at_ := i }
/-- In its value. -/
def vlK (m : Msg) (nm acc : List UInt8) (f i : Nat) : Msg := { m with lines := m.lines + 1, tk := .inValue, th := .no, name := if m.trailers then [] else nm.map sm, word := if m.trailers then [] else acc.dropWhile blank, frm := f, at_ := i }
theorem nm_bite {m : Msg} {b : Int} {i : Nat} (h : Ln m b i) (acc : List UInt8) (j : Nat) (d : UInt8) (hd : tok d = true) (hj : ¬ (j : Int) = b) : bite (nmK m acc j) d = nmK m (acc ++ [d]) (j + 1) := by
  have hl : (nmK m acc j).left = 0 := h.left
  rw [bite_else hl (by show ¬ (j : Int) = m.bound; rw [h.bound]; exact hj)]
  have e : takeDo (nmK m acc j).tk (nmK m acc j) d = ((.inName, .no), keep (nmK m acc j) (sm d)) := by
    show inName (nmK m acc j) d = _
    unfold inName
    rw [if_pos hd]
  rw [e]
  unfold keep nmK
  cases ht : m.trailers <;> simp
theorem dw_app (p : UInt8 → Bool) (acc : List UInt8) (d : UInt8) : (acc ++ [d]).dropWhile p = if p d && (acc.dropWhile p).isEmpty then [] else acc.dropWhile p ++ [d] := by
  induction acc with
  | nil => cases hd : p d <;> simp [hd]
  | cons a t ih =>
    rw [List.cons_append, List.dropWhile_cons, List.dropWhile_cons]
    cases ha : p a with
    | true => rw [if_pos rfl, if_pos rfl]; exact ih
    | false => simp
theorem txt13 : ∀ n, n < 256 → (txt (UInt8.ofNat n) && (UInt8.ofNat n).toNat == 13) = false := by decide +kernel
theorem txt_13 {c : UInt8} (h : txt c = true) : ¬ c.toNat = 13 := by
  intro e
  have := txt13 c.toNat c.toNat_lt
  rw [UInt8.ofNat_toNat, h, e] at this
  cases this
theorem vl_bite {m : Msg} {b : Int} {i : Nat} (h : Ln m b i) (nm : List UInt8) (f : Nat) (acc : List UInt8) (j : Nat) (d : UInt8) (hd : txt d = true) (hj : ¬ (j : Int) = b) : bite (vlK m nm acc f j) d = vlK m nm (acc ++ [d]) f (j + 1) := by
  have hl : (vlK m nm acc f j).left = 0 := h.left
  rw [bite_else hl (by show ¬ (j : Int) = m.bound; rw [h.bound]; exact hj)]
  have e : takeDo (vlK m nm acc f j).tk (vlK m nm acc f j) d = if blank d && (vlK m nm acc f j).word.isEmpty then ((.inValue, .no), vlK m nm acc f j) else ((.inValue, .no), keep (vlK m nm acc f j) d) := by
    show inValue (vlK m nm acc f j) d = _
    unfold inValue
    rw [if_neg (txt_13 hd)]
    split
    · rfl
    · rfl
  rw [e]
  unfold keep vlK
  rw [dw_app]
  cases ht : m.trailers with
  | true => cases hb : blank d <;> simp
  | false =>
    cases hb : blank d with
    | false => simp
    | true =>
      cases hw : (acc.dropWhile blank).isEmpty with
      | true =>
        have : acc.dropWhile blank = [] := by simpa using hw
        simp [this]
      | false => simp [hw]
/-- One line of headers, behind its first byte. -/
def lineD (b : Int) (l : List UInt8) (i : Nat) : Re (List UInt8 × List UInt8) :=
  (tokenD b l i).bind fun nm r j => (mustD b 58 r j).bind fun _ r j => (bytesD b r j).bind fun v r j => (endD b r j).bind fun _ r j => .ok (nm, v) r j
/-- The machine behind a line. -/
def lnK (m : Msg) (x : List UInt8 × List UInt8) (i : Nat) : Msg := { m with lines := m.lines + 1, name := if m.trailers then [] else x.1.map sm, headers := if m.trailers then m.headers else m.headers ++ [(x.1.map sm, trimR (x.2.dropWhile blank))], at_ := i, frm := i }
theorem first_name {m : Msg} {b : Int} {i : Nat} (h : Ln m b i) {c : UInt8} (h13 : ¬ c.toNat = 13) (h32 : ¬ m.lines = 32) (r : List UInt8) : rd m (c :: r) = rd (nmK m [] i) (c :: r) := by
  rw [rdD_cons (over_tk (by rw [h.tk]; decide)), rdD_cons (over_tk (by show Tk.inName ≠ _; decide))]
  have e : bite m c = bite (nmK m [] i) c := by
    have hl : (nmK m [] i).left = 0 := h.left
    by_cases hb : (i : Int) = b
    · have e1 : step m c = (fail m m.at_ 181).2 := by unfold step; rw [if_pos (by rw [h.at_, h.bound]; exact hb)]
      have e2 : step (nmK m [] i) c = (fail (nmK m [] i) i 181).2 := by unfold step; rw [if_pos (by show (i : Int) = m.bound; rw [h.bound]; exact hb)]; rfl
      rw [bite_step h.left, bite_step hl, e1, e2, h.at_]
      rfl
    · rw [bite_else h.left (by rw [h.at_, h.bound]; exact hb), bite_else hl (by show ¬ (i : Int) = m.bound; rw [h.bound]; exact hb), h.tk]
      have e3 : takeDo .atLine m c = inName { m with lines := m.lines + 1 } c := by
        show atLine m c = _
        unfold atLine
        rw [if_neg h13, if_neg h32]
      have e4 : takeDo (nmK m [] i).tk (nmK m [] i) c = inName (nmK m [] i) c := rfl
      rw [e3, e4]
      have e5 : ({ m with lines := m.lines + 1 } : Msg).word = (nmK m [] i).word := by
        show m.word = if m.trailers then [] else List.map sm []
        rw [h.word]; cases m.trailers <;> rfl
      unfold inName
      by_cases hc : tok c = true
      · rw [if_pos hc, if_pos hc]
        unfold keep nmK
        rw [h.word]
        cases ht : m.trailers <;> simp [h.at_]
      · rw [if_neg hc, if_neg hc]
        have e6 : ¬ (c.toNat = 58 ∧ ({ m with lines := m.lines + 1 } : Msg).frm < ({ m with lines := m.lines + 1 } : Msg).at_) := fun e => by
          have := e.2
          simp only [h.frm, h.at_] at this
          omega
        have e7 : ¬ (c.toNat = 58 ∧ (nmK m [] i).frm < (nmK m [] i).at_) := fun e => by
          have := e.2
          simp only [nmK, h.frm] at this
          omega
        rw [if_neg e6, if_neg e7]
        unfold refuse fail nmK
        simp [h.at_]
  rw [e]
theorem Sim.eq {α : Type} {x : Re α} {k : α → Nat → Msg} {m m' : Msg} {l : List UInt8} (e : rd m l = rd m' l) (h : Sim x k m' l) : Sim x k m l := by
  cases x with
  | bad a e2 => show Bad (rd m l).1 _ _; rw [e]; exact h
  | more => show (rd m l).1.fErr = 0 ∧ over (rd m l).1 = false ∧ (rd m l).2 = l.length; rw [e]; exact h
  | ok a r i => exact ⟨h.1, by rw [e]; exact h.2⟩
theorem name_sim {m : Msg} {b : Int} {i : Nat} (h : Ln m b i) (l : List UInt8) : Sim ((tokenD b l i).bind fun nm r j => (mustD b 58 r j).bind fun _ r j => .ok nm r j) (fun nm j => vlK m nm [] j j) (nmK m [] i) l := by
  have hrun := run_sim (b := b) (p := tok) (nmK m) (fun acc j => ⟨by show Tk.inName ≠ _; decide, h.left, h.err, h.bound, rfl⟩) (fun acc j d hd hj => nm_bite h acc j d hd hj) l [] i
  unfold tokenD
  cases hx : runD b tok [] l i with
  | bad a e => rw [hx] at hrun; exact hrun
  | more => rw [hx] at hrun; exact hrun
  | ok a r j =>
    rw [hx] at hrun
    obtain ⟨d, q, rfl, hd, hj, h4, x, h5, h6, h7⟩ := runD_ok l [] i a r j hx
    have hal : j = i + a.length := by simpa using h4
    have hst : ∀ y : Re (List UInt8), Sim y (fun nm j => vlK m nm [] j j) (nmK m a j) (d :: q) → Sim y (fun nm j => vlK m nm [] j j) (nmK m [] i) l := fun y hy => by
      have := Sim.bind (x := .ok a (d :: q) j) (f := fun _ _ _ => y) (k' := fun nm j => vlK m nm [] j j) hrun (fun a' r' i' e => by cases e; exact hy)
      exact this
    refine hst _ ?_
    have hl : (nmK m a j).left = 0 := h.left
    have ho : over (nmK m a j) = false := over_tk (by show Tk.inName ≠ _; decide)
    have hbd : ¬ ((nmK m a j).at_ : Int) = (nmK m a j).bound := by show ¬ (j : Int) = m.bound; rw [h.bound]; exact hj
    have hin : takeDo (nmK m a j).tk (nmK m a j) d = if d.toNat = 58 ∧ (nmK m a j).frm < (nmK m a j).at_ then part { nmK m a j with name := (nmK m a j).word } .inValue else refuse (nmK m a j) := by
      show inName (nmK m a j) d = _
      unfold inName
      rw [if_neg (by rw [hd]; decide)]
    show Sim ((if a = [] then (.bad j 180 : Re (List UInt8)) else .ok a (d :: q) j).bind fun nm r j => (mustD b 58 r j).bind fun _ r j => .ok nm r j) _ _ _
    by_cases ha : a = []
    · rw [if_pos ha]
      refine Sim.fault ho (bite_fail hl hbd ?_)
      rw [hin, if_neg]
      · rfl
      · rintro ⟨_, e⟩
        have e2 : m.frm < j := e
        rw [h.frm, hal, ha] at e2
        simp at e2
    · rw [if_neg ha]
      show Sim ((mustD b 58 (d :: q) j).bind fun _ r j => .ok a r j) _ _ _
      rw [mustD_cons, if_neg hj]
      by_cases hc : d = 58
      · rw [if_pos hc]
        refine Sim.step ho ?_
        rw [bite_else hl hbd, hin, if_pos ⟨by rw [hc]; rfl, by show m.frm < j; rw [h.frm, hal]; have := List.length_pos_iff.2 ha; omega⟩]
        refine Sim.here ?_
        unfold part vlK nmK
        cases m.trailers <;> simp
      · rw [if_neg hc]
        refine Sim.fault ho (bite_fail hl hbd ?_)
        rw [hin, if_neg]
        · rfl
        · rintro ⟨e, _⟩
          exact hc (UInt8.toNat_inj.1 e)
theorem value_sim {m : Msg} {b : Int} {i : Nat} (h : Ln m b i) (nm : List UInt8) (f : Nat) (l : List UInt8) (j : Nat) : Sim ((bytesD b l j).bind fun v r j => (endD b r j).bind fun _ r j => .ok v r j) (fun v j => lnK m (nm, v) j) (vlK m nm [] f j) l := by
  have hrun := run_sim (b := b) (p := txt) (fun acc j => vlK m nm acc f j) (fun acc j => ⟨by show Tk.inValue ≠ _; decide, h.left, h.err, h.bound, rfl⟩) (fun acc j d hd hj => vl_bite h nm f acc j d hd hj) l [] j
  unfold bytesD
  refine Sim.bind hrun fun v r j2 hx => ?_
  obtain ⟨d, q, rfl, hd, hj, h4, x, h5, h6, h7⟩ := runD_ok l [] j v r j2 hx
  unfold endD
  have hl : (vlK m nm v f j2).left = 0 := h.left
  have ho : over (vlK m nm v f j2) = false := over_tk (by show Tk.inValue ≠ _; decide)
  have hbd : ¬ ((vlK m nm v f j2).at_ : Int) = (vlK m nm v f j2).bound := by show ¬ (j2 : Int) = m.bound; rw [h.bound]; exact hj
  have hb0 : ¬ blank d = true := fun e => by
    have : txt d = true := by
      unfold blank at e
      unfold txt
      simp only [Bool.or_eq_true, beq_iff_eq] at e
      rcases e with e | e
      · rw [e]; rfl
      · rw [e]; rfl
    rw [this] at hd; cases hd
  rw [mustD_cons, if_neg hj]
  by_cases hc : d = 13
  · rw [if_pos hc]
    show Sim ((mustD b 10 q (j2 + 1)).bind fun _ r j => .ok v r j) _ _ _
    refine Sim.step ho ?_
    have e : bite (vlK m nm v f j2) d = { vlK m nm v f j2 with tk := .lineFeed, th := .headerEnds, at_ := j2 + 1 } := by
      rw [bite_else hl hbd]
      have : takeDo (vlK m nm v f j2).tk (vlK m nm v f j2) d = ((.lineFeed, .headerEnds), vlK m nm v f j2) := by
        show inValue (vlK m nm v f j2) d = _
        unfold inValue
        rw [if_pos (by rw [hc]; rfl)]
      rw [this]
      rfl
    rw [e]
    refine Sim.bind (k := fun _ j => lnK m (nm, v) j) (feed_sim (b := b) (t := .headerEnds) (m := { vlK m nm v f j2 with tk := .lineFeed, th := .headerEnds, at_ := j2 + 1 }) q rfl rfl h.left h.err h.bound ?_) (fun a r i e => Sim.here rfl)
    rcases Bool.eq_false_or_eq_true m.trailers with ht | ht <;> simp [thenDo, headerEnds, headerLine, part, vlK, lnK, ht, h.tk, h.th, h.word]
  · rw [if_neg hc]
    refine Sim.fault ho (bite_fail hl hbd ?_)
    show inValue (vlK m nm v f j2) d = _
    unfold inValue
    rw [if_neg (show ¬ d.toNat = 13 from fun e => hc (UInt8.toNat_inj.1 e)), if_neg (by simp [hb0]), if_neg (by rw [hd]; decide)]
    rfl
end Go.Wb
namespace Go.Wb
/-- The document's headers: at most so many lines. -/
def headersD (b : Int) : Nat → List (List UInt8 × List UInt8) → List UInt8 → Nat → Re (List (List UInt8 × List UInt8))
  | 0, _, _, _ => .more
  | _ + 1, _, [], _ => .more
  | n + 1, out, c :: r, i =>
    if (i : Int) = b then .bad i 181
    else if c = 13 then (endD b (c :: r) i).bind fun _ r j => .ok out r j
    else if out.length = 32 then .bad i 181
    else (lineD b (c :: r) i).bind fun x r j => headersD b n (out ++ [x]) r j
theorem headersD_cons (b : Int) (n : Nat) (out : List (List UInt8 × List UInt8)) (c : UInt8) (r : List UInt8) (i : Nat) : headersD b (n + 1) out (c :: r) i = if (i : Int) = b then .bad i 181 else if c = 13 then (endD b (c :: r) i).bind fun _ r j => .ok out r j else if out.length = 32 then .bad i 181 else (lineD b (c :: r) i).bind fun x r j => headersD b n (out ++ [x]) r j := rfl
theorem line_sim {m : Msg} {b : Int} {i : Nat} (h : Ln m b i) (l : List UInt8) : Sim (lineD b l i) (fun x j => lnK m x j) (nmK m [] i) l := by
  have e : lineD b l i = ((tokenD b l i).bind fun nm r j => (mustD b 58 r j).bind fun _ r j => .ok nm r j).bind fun nm r j => ((bytesD b r j).bind fun v r j => (endD b r j).bind fun _ r j => .ok v r j).bind fun v r j => .ok (nm, v) r j := by
    unfold lineD
    cases tokenD b l i with
    | bad => rfl
    | more => rfl
    | ok nm r j =>
      show (mustD b 58 r j).bind _ = ((mustD b 58 r j).bind _).bind _
      cases mustD b 58 r j with
      | bad => rfl
      | more => rfl
      | ok u r j =>
        show (bytesD b r j).bind _ = ((bytesD b r j).bind _).bind _
        cases bytesD b r j with
        | bad => rfl
        | more => rfl
        | ok v r j =>
          show (endD b r j).bind _ = ((endD b r j).bind _).bind _
          cases endD b r j <;> rfl
  rw [e]
  refine Sim.bind (name_sim h l) fun nm r j _ => ?_
  exact Sim.bind (value_sim h nm j r j) fun v r j _ => Sim.here rfl
/-- The machine's headers as the document has them: names small, values trimmed. -/
def hdOf (x : List UInt8 × List UInt8) : List UInt8 × List UInt8 := (x.1.map sm, trimR (x.2.dropWhile blank))
/-- A machine behind some lines. -/
def lnsK (m : Msg) (out : List (List UInt8 × List UInt8)) (nm : List UInt8) (i : Nat) : Msg := { m with lines := out.length, name := nm, headers := if m.trailers then m.headers else out.map hdOf, at_ := i, frm := i }
/-- Behind the empty line. -/
def endK (m : Msg) (out : List (List UInt8 × List UInt8)) (nm : List UInt8) (j : Nat) : Msg :=
  { (emptyLineEnds { lnsK m out nm (j - 2) with tk := .lineFeed, th := .emptyLineEnds, at_ := j - 1 }).2 with tk := (emptyLineEnds { lnsK m out nm (j - 2) with tk := .lineFeed, th := .emptyLineEnds, at_ := j - 1 }).1.1, th := (emptyLineEnds { lnsK m out nm (j - 2) with tk := .lineFeed, th := .emptyLineEnds, at_ := j - 1 }).1.2, at_ := (emptyLineEnds { lnsK m out nm (j - 2) with tk := .lineFeed, th := .emptyLineEnds, at_ := j - 1 }).2.at_ + 1 }
theorem empty_sim {m : Msg} {b : Int} {i : Nat} (h : Ln m b i) (l : List UInt8) : Sim (endD b (13 :: l) i) (fun _ j => { (emptyLineEnds { m with tk := .lineFeed, th := .emptyLineEnds, at_ := j - 1 }).2 with tk := (emptyLineEnds { m with tk := .lineFeed, th := .emptyLineEnds, at_ := j - 1 }).1.1, th := (emptyLineEnds { m with tk := .lineFeed, th := .emptyLineEnds, at_ := j - 1 }).1.2, at_ := (emptyLineEnds { m with tk := .lineFeed, th := .emptyLineEnds, at_ := j - 1 }).2.at_ + 1 }) m (13 :: l) := by
  have ho : over m = false := over_tk (by rw [h.tk]; decide)
  unfold endD
  rw [mustD_cons]
  by_cases hi : (i : Int) = b
  · rw [if_pos hi]
    have := bite_bound (m := m) h.left (by rw [h.at_, h.bound]; exact hi) 13
    rw [h.at_] at this
    exact Sim.fault ho this
  · rw [if_neg hi, if_pos rfl]
    refine Sim.step ho ?_
    have e : bite m 13 = { m with tk := .lineFeed, th := .emptyLineEnds, at_ := i + 1 } := by
      rw [bite_else h.left (by rw [h.at_, h.bound]; exact hi), h.tk]
      have : takeDo .atLine m 13 = ((.lineFeed, .emptyLineEnds), m) := by
        show atLine m 13 = _
        unfold atLine
        rw [if_pos (show (13 : UInt8).toNat = 13 from rfl)]
      rw [this]
      simp [h.at_]
    rw [e]
    refine feed_sim (b := b) (t := .emptyLineEnds) (m := { m with tk := .lineFeed, th := .emptyLineEnds, at_ := i + 1 }) l rfl rfl h.left h.err h.bound ?_
    rfl
theorem mustD_ok {b : Int} {c : UInt8} {l r : List UInt8} {i j : Nat} {u : Unit} (h : mustD b c l i = .ok u r j) : l = c :: r ∧ j = i + 1 ∧ ¬ (i : Int) = b := by
  cases l with
  | nil => cases h
  | cons d q =>
    rw [mustD_cons] at h
    by_cases hi : (i : Int) = b
    · rw [if_pos hi] at h; cases h
    · rw [if_neg hi] at h
      by_cases hd : d = c
      · rw [if_pos hd] at h
        injection h with _ h2 h3
        exact ⟨by rw [hd, h2], h3.symm, hi⟩
      · rw [if_neg hd] at h; cases h
theorem bind_ok {α β : Type} {x : Re α} {f : α → List UInt8 → Nat → Re β} {b : β} {r : List UInt8} {j : Nat} (h : x.bind f = .ok b r j) : ∃ a r2 j2, x = .ok a r2 j2 ∧ f a r2 j2 = .ok b r j := by
  cases x with
  | bad => cases h
  | more => cases h
  | ok a r2 j2 => exact ⟨a, r2, j2, rfl, h⟩
theorem lineD_short {b : Int} {l r : List UInt8} {i j : Nat} {x : List UInt8 × List UInt8} (h : lineD b l i = .ok x r j) : r.length < l.length := by
  unfold lineD at h
  obtain ⟨nm, r1, j1, h1, h⟩ := bind_ok h
  obtain ⟨u, r2, j2, h2, h⟩ := bind_ok h
  obtain ⟨v, r3, j3, h3, h⟩ := bind_ok h
  obtain ⟨u2, r4, j4, h4, h⟩ := bind_ok h
  injection h with _ h5
  unfold tokenD at h1
  obtain ⟨a, r0, j0, h6, h7⟩ := bind_ok h1
  obtain ⟨d, q, _, _, _, _, y, _, h8, _⟩ := runD_ok _ _ _ _ _ _ h6
  have h9 : r1 = r0 := by
    by_cases ha : a = []
    · rw [if_pos ha] at h7; cases h7
    · rw [if_neg ha] at h7; injection h7 with _ h7; exact h7.symm
  obtain ⟨h10, _, _⟩ := mustD_ok h2
  unfold bytesD at h3
  obtain ⟨d3, q3, _, _, _, _, y3, _, h11, _⟩ := runD_ok _ _ _ _ _ _ h3
  unfold endD at h4
  obtain ⟨u4, r5, j5, h12, h13⟩ := bind_ok h4
  obtain ⟨h14, _, _⟩ := mustD_ok h12
  obtain ⟨h15, _, _⟩ := mustD_ok h13
  have e1 : l.length = y.length + r0.length := by rw [h8, List.length_append]
  have e2 : r0.length = r2.length + 1 := by rw [← h9, h10, List.length_cons]
  have e3 : r2.length = y3.length + r3.length := by rw [h11, List.length_append]
  have e4 : r3.length = r5.length + 1 := by rw [h14, List.length_cons]
  have e5 : r5.length = r4.length + 1 := by rw [h15, List.length_cons]
  rw [← h5]
  omega
theorem lnK_next (m : Msg) (out : List (List UInt8 × List UInt8)) (nm : List UInt8) (i : Nat) (x : List UInt8 × List UInt8) (j : Nat) : lnK (lnsK m out nm i) x j = lnsK m (out ++ [x]) (if m.trailers then [] else x.1.map sm) j := by
  unfold lnK lnsK hdOf
  rcases Bool.eq_false_or_eq_true m.trailers with ht | ht <;> simp [ht]
theorem endK_name (m : Msg) (out : List (List UInt8 × List UInt8)) (nm : List UInt8) (j : Nat) (h : m.trailers = true → nm = []) : endK m out nm j = endK m out [] j := by
  rcases Bool.eq_false_or_eq_true m.trailers with ht | ht
  · rw [h ht]
  · unfold endK emptyLineEnds lnsK
    simp [ht]
theorem Re.bind_ok {α : Type} (x : Re α) : (x.bind fun a r j => .ok a r j) = x := by cases x <;> rfl
theorem headers_sim {m : Msg} {b : Int} (n : Nat) : ∀ (out : List (List UInt8 × List UInt8)) (nm : List UInt8) (l : List UInt8) (i : Nat), Ln (lnsK m out nm i) b i → (m.trailers = true → nm = []) → l.length < n →
    Sim (headersD b n out l i) (fun o j => endK m o [] j) (lnsK m out nm i) l := by
  induction n with
  | zero => intro out nm l i _ _ hl; omega
  | succ n ih =>
    intro out nm l i h hnm hl
    have ho : over (lnsK m out nm i) = false := over_tk (by rw [h.tk]; decide)
    cases l with
    | nil => exact Sim.nil ho h.err
    | cons c r =>
      rw [headersD_cons]
      by_cases hi : (i : Int) = b
      · rw [if_pos hi]
        exact Sim.fault ho (bite_bound (m := lnsK m out nm i) h.left (by rw [h.bound]; exact hi) c)
      · rw [if_neg hi]
        by_cases hc : c = 13
        · subst hc
          rw [if_pos rfl]
          refine Sim.bind (empty_sim h r) fun u r2 j hx => Sim.here ?_
          show endK m out [] j = _
          rw [← endK_name m out nm j hnm]
          have hj : j - 2 = i := by
            unfold endD at hx
            obtain ⟨u1, r1, j1, h1, h2⟩ := bind_ok hx
            have e1 := (mustD_ok h1).2.1
            have e2 := (mustD_ok h2).2.1
            omega
          unfold endK
          rw [hj]
        · rw [if_neg hc]
          have h13 : ¬ c.toNat = 13 := fun e => hc (UInt8.toNat_inj.1 e)
          by_cases h32 : out.length = 32
          · rw [if_pos h32]
            refine Sim.fault ho (bite_fail h.left (by rw [h.at_, h.bound]; exact hi) ?_)
            rw [h.tk]
            show atLine (lnsK m out nm i) c = _
            unfold atLine
            rw [if_neg h13, if_pos (show (lnsK m out nm i).lines = 32 from h32)]
            rfl
          · rw [if_neg h32]
            refine Sim.eq (first_name h h13 h32 r) ?_
            refine Sim.bind (line_sim h (c :: r)) fun x r2 j hx => ?_
            rw [lnK_next]
            refine ih (out ++ [x]) _ r2 j ⟨h.tk, h.th, h.left, h.err, h.bound, rfl, rfl, h.word⟩ (fun e => by rw [if_pos e]) ?_
            have hlen := (line_sim h (c :: r))
            rw [hx] at hlen
            have hle : r2.length ≤ (c :: r).length := hlen.1
            have hlt : r2.length < (c :: r).length := lineD_short hx
            omega
end Go.Wb
namespace Go.Wb
theorem digitD_cons (b : Int) (d : UInt8) (r : List UInt8) (i : Nat) : digitD b (d :: r) i = if (i : Int) = b then .bad i 181 else if dig d then .ok (d.toNat - 48) r (i + 1) else .bad i 180 := rfl
/-- The document's version: 10 or 11. -/
def versionD (b : Int) (l : List UInt8) (i : Nat) : Re Nat :=
  (mustD b 72 l i).bind fun _ r j => (mustD b 84 r j).bind fun _ r j => (mustD b 84 r j).bind fun _ r j => (mustD b 80 r j).bind fun _ r j => (mustD b 47 r j).bind fun _ r j =>
  (digitD b r j).bind fun x r j => (mustD b 46 r j).bind fun _ r j => (digitD b r j).bind fun y r j => if x ≠ 1 ∨ 1 < y then .bad i 184 else .ok (10 * x + y) r j
/-- The machine in a version, behind some of its bytes. -/
def vrK (m : Msg) (w : List UInt8) (i : Nat) : Msg := { m with word := w, at_ := i }
/-- A machine at a version. -/
structure Vs (m : Msg) (b : Int) (i : Nat) : Prop where
  tk : m.tk = .inVersion
  left : m.left = 0
  err : m.fErr = 0
  bound : m.bound = b
  at_ : m.at_ = i
  frm : m.frm = i
  word : m.word = []
  tr : m.trailers = false
theorem vr_bite {m : Msg} {b : Int} {i : Nat} (h : Vs m b i) (w : List UInt8) (hw : w.length < 7) (j : Nat) (d : UInt8) (hj : ¬ (j : Int) = b) (hd : d = form.getD w.length 0 ∨ form.getD w.length 0 = 48 ∧ dig d = true) : bite (vrK m w j) d = vrK m (w ++ [d]) (j + 1) := by
  have hl : (vrK m w j).left = 0 := h.left
  rw [bite_else hl (by show ¬ (j : Int) = m.bound; rw [h.bound]; exact hj)]
  have hk : keep (vrK m w j) d = vrK m (w ++ [d]) j := by unfold keep vrK; simp [h.tr]
  have e : takeDo (vrK m w j).tk (vrK m w j) d = ((m.tk, m.th), vrK m (w ++ [d]) j) := by
    show takeDo m.tk (vrK m w j) d = _
    rw [h.tk]
    show inVersion (vrK m w j) d = _
    unfold inVersion
    have hw2 : want (vrK m w j) = form.getD w.length 0 := rfl
    rw [if_neg, hk, if_pos]
    · show ((m.tk, m.th), _) = _; rw [h.tk]
    · show (w ++ [d]).length < 8; simp; omega
    · rw [hw2]
      rintro ⟨e1, e2⟩
      rcases hd with hd | ⟨hd, hd2⟩
      · exact e1 hd
      · rcases e2 with e2 | e2
        · exact e2 hd
        · rw [hd2] at e2; cases e2
  rw [e]
  unfold vrK
  simp
theorem vr_no {m : Msg} {b : Int} {i : Nat} (h : Vs m b i) (w : List UInt8) (j : Nat) (d : UInt8) (hd : ¬ d = form.getD w.length 0) (hd2 : ¬ form.getD w.length 0 = 48 ∨ dig d = false) : takeDo (vrK m w j).tk (vrK m w j) d = refuse (vrK m w j) := by
  show takeDo m.tk (vrK m w j) d = _
  rw [h.tk]
  show inVersion (vrK m w j) d = _
  unfold inVersion
  rw [if_pos ⟨hd, hd2⟩]
/-- One of the fixed signs of a version. -/
theorem vr_must {m : Msg} {b : Int} {i : Nat} (h : Vs m b i) {w : List UInt8} (hw : w.length < 7) {c : UInt8} (hc : form.getD w.length 0 = c) (h48 : ¬ c = 48) (l : List UInt8) (j : Nat) : Sim (mustD b c l j) (fun _ j => vrK m (w ++ [c]) j) (vrK m w j) l := by
  refine must_sim (m := vrK m w j) l (by show m.tk ≠ _; rw [h.tk]; decide) h.left h.err h.bound (fun d hd => vr_no h w j d (by rw [hc]; exact hd) (.inl (by rw [hc]; exact h48))) (fun hj => ?_)
  exact vr_bite h w hw j c hj (.inl hc.symm)
/-- A digit that is not the last one. -/
theorem vr_digit {m : Msg} {b : Int} {i : Nat} (h : Vs m b i) {w : List UInt8} (hw : w.length < 7) (hc : form.getD w.length 0 = 48) (l : List UInt8) (j : Nat) : Sim (digitD b l j) (fun x j => vrK m (w ++ [UInt8.ofNat (x + 48)]) j) (vrK m w j) l := by
  have ho : over (vrK m w j) = false := over_tk (by show m.tk ≠ _; rw [h.tk]; decide)
  cases l with
  | nil => exact Sim.nil ho h.err
  | cons d r =>
    rw [digitD_cons]
    by_cases hj : (j : Int) = b
    · rw [if_pos hj]
      exact Sim.fault ho (bite_bound (m := vrK m w j) h.left (by show (j : Int) = m.bound; rw [h.bound]; exact hj) d)
    · rw [if_neg hj]
      cases hd : dig d with
      | true =>
        rw [if_pos rfl]
        refine Sim.step ho ?_
        rw [vr_bite h w hw j d hj (.inr ⟨hc, hd⟩)]
        refine Sim.here ?_
        have e : UInt8.ofNat (d.toNat - 48 + 48) = d := by
          have : 48 ≤ d.toNat := by unfold dig at hd; simp only [Bool.and_eq_true, decide_eq_true_eq] at hd; exact hd.1
          rw [Nat.sub_add_cancel this, UInt8.ofNat_toNat]
        show vrK m (w ++ [UInt8.ofNat (d.toNat - 48 + 48)]) (j + 1) = _
        rw [e]
      | false =>
        rw [if_neg (by decide)]
        refine Sim.fault ho (bite_fail (m := vrK m w j) h.left (by show ¬ (j : Int) = m.bound; rw [h.bound]; exact hj) (vr_no h w j d (fun e => ?_) (.inr hd)))
        rw [hc] at e
        subst e
        cases hd
/-- The machine behind a version. -/
def vdK (m : Msg) (t : St) (v j : Nat) : Msg := { m with word := if v = 11 then wNewer else wOlder, newer := decide (v = 11), tk := t.1, th := t.2, at_ := j }
theorem dig_back {d : UInt8} (h : dig d = true) : UInt8.ofNat (d.toNat - 48 + 48) = d ∧ d.toNat - 48 ≤ 9 := by
  have h1 : 48 ≤ d.toNat ∧ d.toNat ≤ 57 := by unfold dig at h; simpa using h
  exact ⟨by rw [Nat.sub_add_cancel h1.1, UInt8.ofNat_toNat], by omega⟩
theorem vr_last {m : Msg} {b : Int} {i : Nat} (h : Vs m b i) {t : St} (hth : ∀ M, thenDo m.th M = (t, M)) (x : Nat) (hx : x ≤ 9) (l : List UInt8) (j : Nat) :
    Sim ((digitD b l j).bind fun y r j => if x ≠ 1 ∨ 1 < y then .bad i 184 else .ok (10 * x + y) r j) (fun v j => vdK m t v j) (vrK m [72, 84, 84, 80, 47, UInt8.ofNat (x + 48), 46] j) l := by
  have ho : over (vrK m [72, 84, 84, 80, 47, UInt8.ofNat (x + 48), 46] j) = false := over_tk (by show m.tk ≠ _; rw [h.tk]; decide)
  cases l with
  | nil => exact Sim.nil ho h.err
  | cons d r =>
    rw [digitD_cons]
    by_cases hj : (j : Int) = b
    · rw [if_pos hj]
      exact Sim.fault ho (bite_bound (m := vrK m _ j) h.left (by show (j : Int) = m.bound; rw [h.bound]; exact hj) d)
    · rw [if_neg hj]
      have hbd : ¬ ((vrK m [72, 84, 84, 80, 47, UInt8.ofNat (x + 48), 46] j).at_ : Int) = (vrK m [72, 84, 84, 80, 47, UInt8.ofNat (x + 48), 46] j).bound := by show ¬ (j : Int) = m.bound; rw [h.bound]; exact hj
      cases hd : dig d with
      | false =>
        rw [if_neg (by decide)]
        refine Sim.fault ho (bite_fail (m := vrK m _ j) h.left hbd (vr_no h _ j d (fun e => ?_) (.inr hd)))
        have e2 : d = 48 := e
        subst e2
        cases hd
      | true =>
        rw [if_pos rfl]
        obtain ⟨e1, e2⟩ := dig_back hd
        show Sim (if x ≠ 1 ∨ 1 < d.toNat - 48 then .bad i 184 else .ok (10 * x + (d.toNat - 48)) r (j + 1)) _ _ _
        have hk : keep (vrK m [72, 84, 84, 80, 47, UInt8.ofNat (x + 48), 46] j) d = vrK m [72, 84, 84, 80, 47, UInt8.ofNat (x + 48), 46, d] j := by unfold keep vrK; simp [h.tr]
        have hv : takeDo (vrK m [72, 84, 84, 80, 47, UInt8.ofNat (x + 48), 46] j).tk (vrK m [72, 84, 84, 80, 47, UInt8.ofNat (x + 48), 46] j) d = if [72, 84, 84, 80, 47, UInt8.ofNat (x + 48), 46, d] ≠ wOlder ∧ [72, 84, 84, 80, 47, UInt8.ofNat (x + 48), 46, d] ≠ wNewer then fail (vrK m [72, 84, 84, 80, 47, UInt8.ofNat (x + 48), 46] j) i 184 else (t, { vrK m [72, 84, 84, 80, 47, UInt8.ofNat (x + 48), 46, d] j with newer := decide ([72, 84, 84, 80, 47, UInt8.ofNat (x + 48), 46, d] = wNewer) }) := by
          show takeDo m.tk _ d = _
          rw [h.tk]
          show inVersion _ d = _
          unfold inVersion
          rw [if_neg (fun e => by
            rcases e.2 with e3 | e3
            · exact e3 rfl
            · rw [hd] at e3; cases e3), hk, if_neg (by show ¬ (8 : Nat) < 8; omega)]
          have hf : (vrK m [72, 84, 84, 80, 47, UInt8.ofNat (x + 48), 46] j).frm = i := h.frm
          rw [hf]
          by_cases hq : [72, 84, 84, 80, 47, UInt8.ofNat (x + 48), 46, d] ≠ wOlder ∧ [72, 84, 84, 80, 47, UInt8.ofNat (x + 48), 46, d] ≠ wNewer
          · rw [if_pos hq]; exact if_pos hq
          · rw [if_neg hq]; exact (if_neg hq).trans (hth _)
        have hxx : ∀ n, n ≤ 9 → UInt8.ofNat (n + 48) = 49 → n = 1 := by decide
        have hyy : ∀ n, n ≤ 9 → (UInt8.ofNat (n + 48) = 48 → n = 0) ∧ (UInt8.ofNat (n + 48) = 49 → n = 1) := by decide
        by_cases hc : x ≠ 1 ∨ 1 < d.toNat - 48
        · rw [if_pos hc]
          refine Sim.fault ho (bite_fail (m := vrK m _ j) h.left hbd ?_)
          rw [hv, if_pos]
          have key : ∀ w : List UInt8, w = wOlder ∨ w = wNewer → [72, 84, 84, 80, 47, UInt8.ofNat (x + 48), 46, d] ≠ w := by
            intro w hw e
            have hx1 : UInt8.ofNat (x + 48) = 49 ∧ (d = 48 ∨ d = 49) := by
              rcases hw with rfl | rfl
              · simp only [wOlder, List.cons.injEq, true_and, and_true] at e; exact ⟨e.1, .inl e.2⟩
              · simp only [wNewer, List.cons.injEq, true_and, and_true] at e; exact ⟨e.1, .inr e.2⟩
            have := hxx x hx hx1.1
            rcases hc with hc | hc
            · exact hc this
            · rcases hx1.2 with rfl | rfl
              · exact absurd hc (by decide)
              · exact absurd hc (by decide)
          exact ⟨key _ (.inl rfl), key _ (.inr rfl)⟩
        · rw [if_neg hc]
          obtain rfl : x = 1 := by omega
          have hy : d.toNat - 48 = 0 ∨ d.toNat - 48 = 1 := by omega
          refine Sim.step ho ?_
          rw [bite_else (m := vrK m _ j) h.left hbd, hv]
          rcases hy with hy | hy
          · have ed : d = 48 := by rw [hy] at e1; exact e1.symm
            subst ed
            rw [if_neg (fun e => e.1 rfl)]
            exact Sim.here rfl
          · have ed : d = 49 := by rw [hy] at e1; exact e1.symm
            subst ed
            rw [if_neg (fun e => e.2 rfl)]
            exact Sim.here rfl
theorem digitD_le {b : Int} {l r : List UInt8} {i j x : Nat} (h : digitD b l i = .ok x r j) : x ≤ 9 := by
  cases l with
  | nil => cases h
  | cons d q =>
    rw [digitD_cons] at h
    by_cases hi : (i : Int) = b
    · rw [if_pos hi] at h; cases h
    · rw [if_neg hi] at h
      cases hd : dig d with
      | true => rw [hd, if_pos rfl] at h; injection h with h1; rw [← h1]; exact (dig_back hd).2
      | false => rw [hd, if_neg (by decide)] at h; cases h
theorem version_sim {m : Msg} {b : Int} {i : Nat} (h : Vs m b i) {t : St} (hth : ∀ M, thenDo m.th M = (t, M)) (l : List UInt8) : Sim (versionD b l i) (fun v j => vdK m t v j) m l := by
  have hm : m = vrK m [] i := by unfold vrK; rw [← h.word, ← h.at_]
  have hgo : Sim (versionD b l i) (fun v j => vdK m t v j) (vrK m [] i) l := by
    unfold versionD
    refine Sim.bind (vr_must h (w := []) (by decide) rfl (by decide) l i) fun _ r j _ => ?_
    refine Sim.bind (vr_must h (w := [72]) (by decide) rfl (by decide) r j) fun _ r j _ => ?_
    refine Sim.bind (vr_must h (w := [72, 84]) (by decide) rfl (by decide) r j) fun _ r j _ => ?_
    refine Sim.bind (vr_must h (w := [72, 84, 84]) (by decide) rfl (by decide) r j) fun _ r j _ => ?_
    refine Sim.bind (vr_must h (w := [72, 84, 84, 80]) (by decide) rfl (by decide) r j) fun _ r j _ => ?_
    refine Sim.bind (vr_digit h (w := [72, 84, 84, 80, 47]) (by decide) rfl r j) fun x r j hx => ?_
    refine Sim.bind (vr_must h (w := [72, 84, 84, 80, 47, UInt8.ofNat (x + 48)]) (c := 46) (by show (6 : Nat) < 7; decide) rfl (by decide) r j) fun _ r j _ => ?_
    exact vr_last h hth x (digitD_le hx) r j
  rw [← hm] at hgo
  exact hgo
end Go.Wb
namespace Go.Wb
/-- The document's status: three digits, 200 to 599. -/
def statusD (b : Int) (l : List UInt8) (i : Nat) : Re Nat :=
  (digitD b l i).bind fun x r j => (digitD b r j).bind fun y r j => (digitD b r j).bind fun z r j => if 200 ≤ x * 100 + y * 10 + z ∧ x * 100 + y * 10 + z ≤ 599 then .ok (x * 100 + y * 10 + z) r j else .bad i 180
end Go.Wb
namespace Go.Wb
theorem blankP : (fun c : UInt8 => ([32, 9] : List UInt8).contains c) = blank := by
  funext c
  have h : ∀ n, n < 256 → ([32, 9] : List UInt8).contains (UInt8.ofNat n) = blank (UInt8.ofNat n) := by decide +kernel
  have h2 := h c.toNat c.toNat_lt
  rwa [UInt8.ofNat_toNat] at h2
theorem trimR_is (l : List UInt8) : trimR l = (l.reverse.dropWhile blank).reverse := by
  show (l.reverse.dropWhile (fun c => ([32, 9] : List UInt8).contains c)).reverse = _
  rw [blankP]
theorem trim_is (l : List UInt8) : trim l = (trimR l).dropWhile blank := by
  show (Lib.trimRightS l [32, 9]).dropWhile (fun c => ([32, 9] : List UInt8).contains c) = _
  rw [blankP]
  rfl
theorem trimR_cons (a : UInt8) (t : List UInt8) : trimR (a :: t) = if blank a && (trimR t).isEmpty then [] else a :: trimR t := by
  rw [trimR_is, trimR_is, List.reverse_cons, dw_app, List.isEmpty_reverse]
  split
  · rfl
  · rw [List.reverse_append]; rfl
/-- It is all one on which side blanks go first. -/
theorem trim_two (l : List UInt8) : trimR (l.dropWhile blank) = trim l := by
  rw [trim_is]
  induction l with
  | nil => rfl
  | cons a t ih =>
    rw [List.dropWhile_cons, trimR_cons]
    cases ha : blank a with
    | true =>
      rw [if_pos rfl, ih]
      cases ht : (trimR t).isEmpty with
      | true =>
        have : trimR t = [] := by simpa using ht
        rw [this]; rfl
      | false =>
        show _ = (a :: trimR t).dropWhile blank
        rw [List.dropWhile_cons, ha, if_pos rfl]
    | false =>
      rw [if_neg (by decide), trimR_cons, ha]
      show a :: trimR t = (a :: trimR t).dropWhile blank
      rw [List.dropWhile_cons, ha, if_neg (by decide)]
theorem hdOf_is (x : List UInt8 × List UInt8) : hdOf x = (x.1.map sm, trim x.2) := by
  unfold hdOf
  rw [trim_two]
/-- The document's head of a response: version, status, headers as they stand. -/
def respD (b : Int) (n : Nat) (l : List UInt8) (i : Nat) : Re (Nat × Nat × List (List UInt8 × List UInt8)) :=
  (versionD b l i).bind fun v r j => (mustD b 32 r j).bind fun _ r j => (statusD b r j).bind fun s r j => (mustD b 32 r j).bind fun _ r j =>
  ((bytesD b r j).bind fun _ r j => endD b r j).bind fun _ r j => (headersD b n [] r j).bind fun o r j => .ok (v, s, o) r j
/-- The machine at a response's headers. -/
def hK (m : Msg) (v s j : Nat) : Msg := { m with newer := decide (v = 11), status := s, tk := .atLine, th := .no, at_ := j, frm := j, word := [] }
theorem lns_start {m : Msg} (hl : m.lines = 0) (hn : m.name = []) (hh : m.headers = []) (ht : m.trailers = false) (j : Nat) (ha : m.at_ = j) (hf : m.frm = j) : lnsK m [] [] j = m := by
  obtain ⟨tk, th, be, at_, bo, fr, wo, me, ta, st, ne, li, na, he, tr, la, mo, si, le, bd, fa, fe⟩ := m
  simp only at hl hn hh ht ha hf
  subst hl hn hh ht ha hf
  rfl
end Go.Wb
namespace Go.Wb
/-- The document's length: a number of digits, above most: most and one; none: it is no number. -/
def lenStep (most n : Nat) (c : UInt8) : Nat := if most < n * 10 + (c.toNat - 48) then most + 1 else n * 10 + (c.toNat - 48)
def lengthD (most : Nat) (l : List UInt8) : Option Nat := if isNumber l then some (l.foldl (lenStep most) 0) else none
/-- Two ways not to count on. -/
theorem capped (most : Nat) (l : List UInt8) : ∀ n k, k = (if most < n then most + 1 else n) → l.foldl (lenStep most) k = if most < l.foldl (fun n c => grown most n 10 (c.toNat - 48)) n then most + 1 else l.foldl (fun n c => grown most n 10 (c.toNat - 48)) n := by
  induction l with
  | nil => intro n k h; exact h
  | cons c r ih =>
    intro n k h
    rw [List.foldl_cons, List.foldl_cons]
    refine ih _ _ ?_
    unfold grown lenStep
    by_cases hn : most < n
    · rw [if_pos hn] at h
      rw [if_pos hn, if_pos hn, h, if_pos (by omega)]
    · rw [if_neg hn] at h
      rw [if_neg hn, h]
theorem lengthD_is (most : Nat) (l : List UInt8) : lengthD most l = if isNumber l then some (if most < numberOf most l then most + 1 else numberOf most l) else none := by
  unfold lengthD numberOf
  rw [capped most l 0 0 (by rw [if_neg (by omega)])]
/-- The values of a name. -/
def valsD (H : List (List UInt8 × List UInt8)) (nm : List UInt8) : List (List UInt8) := (H.filter fun h => h.1 == nm).map (·.2)
def lastD (L : List (List UInt8)) : List UInt8 := L.getLast?.getD []
/-- The document's rules: an error, or how many bytes follow (none: chunks). -/
def rulesD (H : List (List UInt8 × List UInt8)) (response : Bool) (newer : Bool) (most : Nat) : Nat × Option Nat :=
  if response = false ∧ (1 < (valsD H wHost).length ∨ newer = true ∧ (valsD H wHost).length = 0) then (180, none)
  else if 0 < (valsD H wCoding).length ∧ (0 < (valsD H wLength).length ∨ newer = false) then (180, none)
  else if 1 < (valsD H wCoding).length ∨ (valsD H wCoding).length = 1 ∧ (lastD (valsD H wCoding)).map sm ≠ wChunked then (183, none)
  else if 1 < (valsD H wLength).length ∨ (valsD H wLength).length = 1 ∧ lengthD most (lastD (valsD H wLength)) = none then (180, none)
  else if (valsD H wLength).length = 1 ∧ most < (lengthD most (lastD (valsD H wLength))).getD 0 then (182, none)
  else if 0 < (valsD H wCoding).length then (0, none)
  else if (valsD H wLength).length = 0 then (0, some 0)
  else (0, some ((lengthD most (lastD (valsD H wLength))).getD 0))
theorem one_last {L : List (List UInt8)} (h : L.length = 1) : lastD L = L.headD [] := by
  match L, h with
  | [x], _ => rfl
/-- The machine's frame is the document's rules. -/
theorem frameD_is {m : Msg} {H : List (List UInt8 × List UInt8)} {resp : Bool} (hH : m.headers = H) (hr : m.status = 0 ↔ resp = false) :
    (frame m).2.2 = (rulesD H resp m.newer m.most).1 ∧ ((rulesD H resp m.newer m.most).1 = 0 → match (rulesD H resp m.newer m.most).2 with | none => (frame m).2.1 = true | some n => (frame m).2.1 = false ∧ (frame m).1 = n) := by
  have hv : ∀ nm, vals m nm = valsD H nm := fun nm => by unfold vals valsD; rw [hH]
  unfold frame rulesD
  rw [hv, hv, hv]
  generalize valsD H wHost = h1
  generalize valsD H wCoding = h2
  generalize valsD H wLength = h3
  by_cases c1 : resp = false ∧ (1 < h1.length ∨ m.newer = true ∧ h1.length = 0)
  · rw [if_pos c1, if_pos ⟨hr.2 c1.1, c1.2⟩]
    exact ⟨rfl, fun e => by cases e⟩
  · rw [if_neg c1, if_neg (fun e => c1 ⟨hr.1 e.1, e.2⟩)]
    by_cases c2 : 0 < h2.length ∧ (0 < h3.length ∨ m.newer = false)
    · rw [if_pos c2, if_pos c2]
      exact ⟨rfl, fun e => by cases e⟩
    · rw [if_neg c2, if_neg c2]
      by_cases c3 : 0 < h2.length ∧ (1 < h2.length ∨ (h2.headD []).map sm ≠ wChunked)
      · have c3' : 1 < h2.length ∨ h2.length = 1 ∧ (lastD h2).map sm ≠ wChunked := by
          by_cases e : 1 < h2.length
          · exact .inl e
          · have e1 : h2.length = 1 := by omega
            refine .inr ⟨e1, ?_⟩
            rw [one_last e1]
            rcases c3.2 with e2 | e2
            · exact absurd e2 e
            · exact e2
        rw [if_pos c3, if_pos c3']
        exact ⟨rfl, fun e => by cases e⟩
      · have c3' : ¬ (1 < h2.length ∨ h2.length = 1 ∧ (lastD h2).map sm ≠ wChunked) := by
          rintro (e | ⟨e1, e2⟩)
          · exact c3 ⟨by omega, .inl e⟩
          · rw [one_last e1] at e2
            exact c3 ⟨by omega, .inr e2⟩
        rw [if_neg c3, if_neg c3']
        by_cases c4 : h3.length = 0
        · have d4 : ¬ (1 < h3.length ∨ h3.length = 1 ∧ lengthD m.most (lastD h3) = none) := by rintro (e | ⟨e, _⟩) <;> omega
          have d5 : ¬ (h3.length = 1 ∧ m.most < (lengthD m.most (lastD h3)).getD 0) := by rintro ⟨e, _⟩; omega
          rw [if_pos c4, if_neg d4, if_neg d5, if_pos c4]
          by_cases c5 : 0 < h2.length
          · rw [if_pos c5]
            exact ⟨rfl, fun _ => decide_eq_true c5⟩
          · rw [if_neg c5]
            exact ⟨rfl, fun _ => ⟨decide_eq_false c5, rfl⟩⟩
        · rw [if_neg c4]
          have c5 : ¬ 0 < h2.length := fun e => c2 ⟨e, .inl (by omega)⟩
          by_cases c6 : 1 < h3.length ∨ isNumber (h3.headD []) = false
          · have d4 : 1 < h3.length ∨ h3.length = 1 ∧ lengthD m.most (lastD h3) = none := by
              by_cases e : 1 < h3.length
              · exact .inl e
              · have e1 : h3.length = 1 := by omega
                refine .inr ⟨e1, ?_⟩
                rcases c6 with e2 | e2
                · exact absurd e2 e
                · unfold lengthD; rw [one_last e1, e2]; rfl
            rw [if_pos c6, if_pos d4]
            exact ⟨rfl, fun e => by cases e⟩
          · have e1 : h3.length = 1 := by
              rcases Nat.lt_or_ge 1 h3.length with e | e
              · exact absurd (.inl e) c6
              · omega
            have e2 : isNumber (h3.headD []) = true := by
              cases e : isNumber (h3.headD []) with
              | true => rfl
              | false => exact absurd (.inr e) c6
            have e3 : lengthD m.most (lastD h3) = some (if m.most < numberOf m.most (h3.headD []) then m.most + 1 else numberOf m.most (h3.headD [])) := by
              rw [lengthD_is, one_last e1, e2]; rfl
            have d4 : ¬ (1 < h3.length ∨ h3.length = 1 ∧ lengthD m.most (lastD h3) = none) := by
              rintro (e | ⟨_, e⟩)
              · omega
              · rw [e3] at e; cases e
            rw [if_neg c6, if_neg d4, e3]
            show (if m.most < numberOf m.most (h3.headD []) then (0, false, 182) else (numberOf m.most (h3.headD []), false, 0) : Nat × Bool × Nat).2.2 = _ ∧ _
            rw [Option.getD_some]
            by_cases c7 : m.most < numberOf m.most (h3.headD [])
            · rw [if_pos c7, if_pos c7, if_pos ⟨e1, Nat.lt_succ_self _⟩]
              exact ⟨rfl, fun e => by cases e⟩
            · rw [if_neg c7, if_neg c7, if_neg (fun e => c7 e.2), if_neg c5, if_neg c4]
              exact ⟨rfl, fun _ => ⟨rfl, rfl⟩⟩
end Go.Wb
namespace Go.Wb
/-- So many bytes. -/
def someD (s : Nat) (l : List UInt8) (i : Nat) : Re (List UInt8) := if l.length < s then .more else .ok (l.take s) (l.drop s) (i + s)
theorem overD_left {m : Msg} (h : m.left ≠ 0) : over m = false := by
  unfold over
  have : (m.left == 0) = false := by simpa using h
  rw [this, Bool.and_false]
/-- The machine behind some bytes of a body. -/
def bdK (m : Msg) (x : List UInt8) (s j : Nat) : Msg := { m with body := m.body ++ x, left := s, at_ := j }
theorem bdK_two (m : Msg) (x y : List UInt8) (s j s' j' : Nat) : bdK (bdK m x s j) y s' j' = bdK m (x ++ y) s' j' := by
  unfold bdK
  simp [List.append_assoc]
theorem someD_next (s : Nat) (c : UInt8) (r : List UInt8) (i : Nat) : someD (s + 1) (c :: r) i = (someD s r (i + 1)).bind fun x q j => .ok (c :: x) q j := by
  unfold someD
  by_cases h : r.length < s
  · rw [if_pos h, if_pos (by rw [List.length_cons]; omega)]; rfl
  · rw [if_neg h, if_neg (by rw [List.length_cons]; omega)]
    show _ = Re.ok (c :: r.take s) (r.drop s) (i + 1 + s)
    rw [List.take_succ_cons, List.drop_succ_cons, show i + 1 + s = i + (s + 1) by omega]
theorem some_sim (s : Nat) : ∀ (m : Msg) (l : List UInt8), m.left = s → m.fErr = 0 → 0 < s → Sim (someD s l m.at_) (fun x j => bdK m x 0 j) m l := by
  induction s with
  | zero => intro m l _ _ h; omega
  | succ s ih =>
    intro m l hl he _
    have ho : over m = false := overD_left (by rw [hl]; omega)
    cases l with
    | nil =>
      unfold someD
      rw [if_pos (by show 0 < s + 1; omega)]
      exact Sim.nil ho he
    | cons c r =>
      have hb : bite m c = bdK m [c] s (m.at_ + 1) := by
        unfold bite
        rw [hl, if_pos (Nat.succ_pos _)]
        rfl
      refine Sim.step ho ?_
      rw [hb, someD_next]
      by_cases h0 : s = 0
      · subst h0
        refine Sim.bind (k := fun x j => bdK m (c :: x) 0 j) (Sim.here (i := m.at_ + 1) (a := []) rfl : Sim (someD 0 r (m.at_ + 1)) _ _ r) fun x q j _ => Sim.here rfl
      · refine Sim.bind (ih (bdK m [c] s (m.at_ + 1)) r rfl he (by omega)) fun x q j _ => Sim.here ?_
        show bdK m (c :: x) 0 j = _
        rw [bdK_two]
        rfl
/-- The digits of a chunk's size. -/
def hexD (most f : Nat) : Nat → List UInt8 → Nat → Re Nat
  | _, [], _ => .more
  | n, d :: r, i => if d.toNat ≠ 13 ∧ i = f + 64 then .bad i 181 else match hexd d with
    | some x => hexD most f (grown most n 16 x) r (i + 1)
    | none => .ok n (d :: r) i
/-- What stands behind the size. -/
def exlD (f : Nat) : List UInt8 → Nat → Re Unit
  | [], _ => .more
  | d :: r, i => if d.toNat ≠ 13 ∧ i = f + 64 then .bad i 181 else if txt d then exlD f r (i + 1) else .ok () (d :: r) i
theorem hexD_cons (most f n : Nat) (d : UInt8) (r : List UInt8) (i : Nat) : hexD most f n (d :: r) i = if d.toNat ≠ 13 ∧ i = f + 64 then .bad i 181 else match hexd d with
    | some x => hexD most f (grown most n 16 x) r (i + 1)
    | none => .ok n (d :: r) i := rfl
theorem exlD_cons (f : Nat) (d : UInt8) (r : List UInt8) (i : Nat) : exlD f (d :: r) i = if d.toNat ≠ 13 ∧ i = f + 64 then .bad i 181 else if txt d then exlD f r (i + 1) else .ok () (d :: r) i := rfl
/-- A size line. -/
def sizeD (most : Nat) (l : List UInt8) (i : Nat) : Re Nat :=
  (hexD most i 0 l i).bind fun n r j => if j = i then .bad j 180 else
    (match r with | [] => .more | d :: q => if d = 59 then exlD i (d :: q) j else .ok () (d :: q) j : Re Unit).bind fun _ r j => (endD (-1) r j).bind fun _ r j => .ok n r j
/-- A machine at a size line. -/
structure Zs (m : Msg) (i : Nat) : Prop where
  tk : m.tk = .inSize
  th : m.th = .no
  left : m.left = 0
  err : m.fErr = 0
  bound : m.bound = -1
  at_ : m.at_ = i
  frm : m.frm = i
  size : m.size = 0
def szK (m : Msg) (n j : Nat) : Msg := { m with size := n, at_ := j }
theorem much_is (m : Msg) (c : UInt8) : tooMuch m c = decide (c.toNat ≠ 13 ∧ m.at_ = m.frm + 64) := by
  unfold tooMuch
  by_cases h1 : c.toNat = 13
  · simp [h1]
  · by_cases h2 : m.at_ = m.frm + 64 <;> simp [h1, h2]
theorem hex_sim {m : Msg} {f : Nat} (h : Zs m f) (l : List UInt8) : ∀ n j, Sim (hexD m.most f n l j) (fun n j => szK m n j) (szK m n j) l := by
  induction l with
  | nil => intro n j; exact Sim.nil (over_tk (by show m.tk ≠ _; rw [h.tk]; decide)) h.err
  | cons d r ih =>
    intro n j
    have ho : over (szK m n j) = false := over_tk (by show m.tk ≠ _; rw [h.tk]; decide)
    have hbd : ¬ ((szK m n j).at_ : Int) = (szK m n j).bound := by show ¬ (j : Int) = m.bound; rw [h.bound]; omega
    have hin : takeDo (szK m n j).tk (szK m n j) d = inSize (szK m n j) d := by show takeDo m.tk _ d = _; rw [h.tk]; rfl
    have hmu : tooMuch (szK m n j) d = decide (d.toNat ≠ 13 ∧ j = f + 64) := by rw [much_is]; show decide (d.toNat ≠ 13 ∧ j = m.frm + 64) = _; rw [h.frm]
    rw [hexD_cons]
    by_cases hm : d.toNat ≠ 13 ∧ j = f + 64
    · rw [if_pos hm]
      refine Sim.fault ho (bite_fail (m := szK m n j) h.left hbd ?_)
      rw [hin]
      unfold inSize
      rw [hmu, if_pos (decide_eq_true hm)]
      rfl
    · rw [if_neg hm]
      cases hx : hexd d with
      | none => exact Sim.here rfl
      | some x =>
        refine Sim.step ho ?_
        have e : inSize (szK m n j) d = ((.inSize, .no), szK m (grown m.most n 16 x) j) := by
          unfold inSize
          rw [hmu, if_neg (by rw [decide_eq_false hm]; decide), hx]
          show ((m.tk, m.th), _) = _
          rw [Prod.mk.injEq, Prod.mk.injEq]
          exact ⟨⟨h.tk, h.th⟩, rfl⟩
        have e2 : bite (szK m n j) d = szK m (grown m.most n 16 x) (j + 1) := by
          rw [bite_else (m := szK m n j) h.left hbd, hin, e]
          unfold szK
          simp [h.tk, h.th]
        rw [e2]
        exact ih _ _
def exK (m : Msg) (n j : Nat) : Msg := { m with size := n, at_ := j, tk := .inExt, th := .no }
theorem ext_sim {m : Msg} {f : Nat} (h : Zs m f) (n : Nat) (l : List UInt8) : ∀ j, Sim (exlD f l j) (fun _ j => exK m n j) (exK m n j) l := by
  induction l with
  | nil => intro j; exact Sim.nil (over_tk (by show Tk.inExt ≠ _; decide)) h.err
  | cons d r ih =>
    intro j
    have ho : over (exK m n j) = false := over_tk (by show Tk.inExt ≠ _; decide)
    have hbd : ¬ ((exK m n j).at_ : Int) = (exK m n j).bound := by show ¬ (j : Int) = m.bound; rw [h.bound]; omega
    have hin : takeDo (exK m n j).tk (exK m n j) d = inExt (exK m n j) d := rfl
    have hmu : tooMuch (exK m n j) d = decide (d.toNat ≠ 13 ∧ j = f + 64) := by rw [much_is]; show decide (d.toNat ≠ 13 ∧ j = m.frm + 64) = _; rw [h.frm]
    rw [exlD_cons]
    by_cases hm : d.toNat ≠ 13 ∧ j = f + 64
    · rw [if_pos hm]
      refine Sim.fault ho (bite_fail (m := exK m n j) h.left hbd ?_)
      rw [hin]
      unfold inExt
      rw [hmu, if_pos (decide_eq_true hm)]
      rfl
    · rw [if_neg hm]
      cases hx : txt d with
      | false => rw [if_neg (by decide)]; exact Sim.here rfl
      | true =>
        rw [if_pos rfl]
        refine Sim.step ho ?_
        have e : inExt (exK m n j) d = ((.inExt, .no), exK m n j) := by
          unfold inExt
          rw [hmu, if_neg (by rw [decide_eq_false hm]; decide), if_neg (txt_13 hx), if_pos hx]
          rfl
        have e2 : bite (exK m n j) d = exK m n (j + 1) := by
          rw [bite_else (m := exK m n j) h.left hbd, hin, e]
          rfl
        rw [e2]
        exact ih _
end Go.Wb
namespace Go.Wb
theorem hexD_ok {most f : Nat} (l : List UInt8) : ∀ n j a r k, hexD most f n l j = .ok a r k → ∃ d q, r = d :: q ∧ hexd d = none ∧ ¬ (d.toNat ≠ 13 ∧ k = f + 64) ∧ j ≤ k ∧ r.length ≤ l.length := by
  induction l with
  | nil => intro n j a r k h; cases h
  | cons d q ih =>
    intro n j a r k h
    rw [hexD_cons] at h
    by_cases hm : d.toNat ≠ 13 ∧ j = f + 64
    · rw [if_pos hm] at h; cases h
    · rw [if_neg hm] at h
      cases hx : hexd d with
      | none =>
        rw [hx] at h
        injection h with h1 h2 h3
        subst h2 h3
        exact ⟨d, q, rfl, hx, hm, Nat.le_refl _, Nat.le_refl _⟩
      | some x =>
        rw [hx] at h
        obtain ⟨d2, q2, h1, h2, h3, h4, h5⟩ := ih _ _ _ _ _ h
        exact ⟨d2, q2, h1, h2, h3, by omega, by rw [List.length_cons]; omega⟩
theorem exlD_ok {f : Nat} (l : List UInt8) : ∀ j u r k, exlD f l j = .ok u r k → ∃ d q, r = d :: q ∧ txt d = false ∧ ¬ (d.toNat ≠ 13 ∧ k = f + 64) ∧ r.length ≤ l.length := by
  induction l with
  | nil => intro j u r k h; cases h
  | cons d q ih =>
    intro j u r k h
    rw [exlD_cons] at h
    by_cases hm : d.toNat ≠ 13 ∧ j = f + 64
    · rw [if_pos hm] at h; cases h
    · rw [if_neg hm] at h
      cases hx : txt d with
      | false =>
        rw [hx, if_neg (by decide)] at h
        injection h with h1 h2 h3
        subst h2 h3
        exact ⟨d, q, rfl, hx, hm, Nat.le_refl _⟩
      | true =>
        rw [hx, if_pos rfl] at h
        obtain ⟨d2, q2, h1, h2, h3, h5⟩ := ih _ _ _ _ h
        exact ⟨d2, q2, h1, h2, h3, by rw [List.length_cons]; omega⟩
/-- A machine's state, behind a byte. -/
def aft (o : Out) : Msg := { o.2 with tk := o.1.1, th := o.1.2, at_ := o.2.at_ + 1 }
/-- The end of a line of which the first byte is at hand. -/
theorem ends_sim {X : Msg} {t : Th} {d : UInt8} {q : List UInt8} (ht : X.tk ≠ .no) (hl : X.left = 0) (he : X.fErr = 0) (hb : X.bound = -1) (h13 : d = 13 → takeDo X.tk X d = ((.lineFeed, t), X)) (hno : d ≠ 13 → takeDo X.tk X d = refuse X) :
    Sim (endD (-1) (d :: q) X.at_) (fun _ j => aft (thenDo t { X with tk := .lineFeed, th := t, at_ := j - 1 })) X (d :: q) := by
  have ho := over_tk ht
  have hbd : ¬ (X.at_ : Int) = X.bound := by rw [hb]; omega
  unfold endD
  rw [mustD_cons, if_neg (by omega)]
  by_cases hd : d = 13
  · rw [if_pos hd]
    show Sim (mustD (-1) 10 q (X.at_ + 1)) _ _ _
    refine Sim.step ho ?_
    have e : bite X d = { X with tk := .lineFeed, th := t, at_ := X.at_ + 1 } := by
      rw [bite_else hl hbd, h13 hd]
    rw [e]
    exact feed_sim (b := -1) (t := t) (m := { X with tk := .lineFeed, th := t, at_ := X.at_ + 1 }) q rfl rfl hl he hb rfl
  · rw [if_neg hd]
    exact Sim.fault ho (bite_fail hl hbd (hno hd))
theorem size_sim {m : Msg} {f : Nat} (h : Zs m f) (l : List UInt8) : Sim (sizeD m.most l f) (fun n j => aft (sizeLineEnds { m with size := n, tk := .lineFeed, th := .sizeLineEnds, at_ := j - 1 })) m l := by
  have hm : m = szK m 0 f := by unfold szK; rw [← h.size, ← h.at_]
  have hgo : Sim (sizeD m.most l f) (fun n j => aft (sizeLineEnds { m with size := n, tk := .lineFeed, th := .sizeLineEnds, at_ := j - 1 })) (szK m 0 f) l := by
    unfold sizeD
    refine Sim.bind (hex_sim h l 0 f) fun n r j hx => ?_
    obtain ⟨d, q, rfl, hd, hmu, hj, -⟩ := hexD_ok l _ _ _ _ _ hx
    have ho : over (szK m n j) = false := over_tk (by show m.tk ≠ _; rw [h.tk]; decide)
    have hbd : ¬ ((szK m n j).at_ : Int) = (szK m n j).bound := by show ¬ (j : Int) = m.bound; rw [h.bound]; omega
    have hmc : tooMuch (szK m n j) d = false := by rw [much_is]; show decide (d.toNat ≠ 13 ∧ j = m.frm + 64) = _; rw [h.frm]; exact decide_eq_false hmu
    have hin : takeDo (szK m n j).tk (szK m n j) d = if j = f then refuse (szK m n j) else if d.toNat = 13 then ((.lineFeed, .sizeLineEnds), szK m n j) else if d.toNat = 59 then ((.inExt, .no), szK m n j) else refuse (szK m n j) := by
      have e1 : takeDo (szK m n j).tk (szK m n j) d = inSize (szK m n j) d := by show takeDo m.tk _ d = _; rw [h.tk]; rfl
      rw [e1]
      unfold inSize
      rw [hmc, if_neg (by decide), hd]
      show (if j = m.frm then _ else _) = _
      rw [h.frm]
    by_cases hjf : j = f
    · rw [if_pos hjf]
      refine Sim.fault ho (bite_fail (m := szK m n j) h.left hbd ?_)
      rw [hin, if_pos hjf]
      rfl
    · rw [if_neg hjf]
      rw [if_neg hjf] at hin
      show Sim ((if d = 59 then exlD f (d :: q) j else .ok () (d :: q) j : Re Unit).bind _) _ _ _
      by_cases h59 : d = 59
      · rw [if_pos h59]
        have hex : Sim (exlD f (d :: q) j) (fun _ j => exK m n j) (szK m n j) (d :: q) := by
          rw [exlD_cons, if_neg hmu, if_pos (by rw [h59]; rfl)]
          refine Sim.step ho ?_
          have e : bite (szK m n j) d = exK m n (j + 1) := by
            rw [bite_else (m := szK m n j) h.left hbd, hin, if_neg (by rw [h59]; decide), if_pos (by rw [h59]; rfl)]
            rfl
          rw [e]
          exact ext_sim h n q (j + 1)
        refine Sim.bind hex fun _ r2 j2 hx2 => ?_
        obtain ⟨d2, q2, rfl, hd2, hmu2, -⟩ := exlD_ok _ _ _ _ _ hx2
        have hmc2 : tooMuch (exK m n j2) d2 = false := by rw [much_is]; show decide (d2.toNat ≠ 13 ∧ j2 = m.frm + 64) = _; rw [h.frm]; exact decide_eq_false hmu2
        refine Sim.bind (ends_sim (X := exK m n j2) (t := .sizeLineEnds) (d := d2) (q := q2) (by show Tk.inExt ≠ _; decide) h.left h.err h.bound (fun e => ?_) (fun e => ?_)) fun _ r3 j3 _ => Sim.here rfl
        · show inExt _ d2 = _
          unfold inExt
          rw [hmc2, if_neg (by decide), if_pos (by rw [e]; rfl)]
        · show inExt _ d2 = _
          unfold inExt
          rw [hmc2, if_neg (by decide), if_neg (show ¬ d2.toNat = 13 from fun e2 => e (UInt8.toNat_inj.1 e2)), if_neg (by rw [hd2]; decide)]
      · rw [if_neg h59]
        show Sim ((endD (-1) (d :: q) j).bind _) _ _ _
        have n59 : ¬ d.toNat = 59 := fun e => h59 (UInt8.toNat_inj.1 e)
        refine Sim.bind (ends_sim (X := szK m n j) (t := .sizeLineEnds) (d := d) (q := q) (by show m.tk ≠ _; rw [h.tk]; decide) h.left h.err h.bound (fun e => ?_) (fun e => ?_)) fun _ r3 j3 _ => Sim.here rfl
        · rw [hin, if_pos (by rw [e]; rfl)]
        · rw [hin, if_neg (show ¬ d.toNat = 13 from fun e2 => e (UInt8.toNat_inj.1 e2)), if_neg n59]
  rw [← hm] at hgo
  exact hgo
end Go.Wb
namespace Go.Wb
theorem Sim.dead {α : Type} {k : α → Nat → Msg} {X : Msg} {l : List UInt8} {a e : Nat} (h : Bad X a e) : Sim (.bad a e : Re α) k X l := by
  show Bad (rd X l).1 a e
  have ho : over X = true := by unfold over; rw [h.1, h.2.1]; rfl
  rw [rdD_over ho]
  exact h
/-- The document's chunks, and trailers. -/
def chunksD (most : Nat) : Nat → List UInt8 → List UInt8 → Nat → Re (List UInt8 × List (List UInt8 × List UInt8) × Nat)
  | 0, _, _, _ => .more
  | n + 1, body, l, i => (sizeD most l i).bind fun s r j =>
    if most < s + body.length then .bad i 182
    else if s = 0 then (headersD ((j : Int) + 2048) (r.length + 1) [] r j).bind fun o r k => .ok (body, o, j) r k
    else (someD s r j).bind fun x r j => (endD (-1) r j).bind fun _ r j => chunksD most n (body ++ x) r j
/-- The machine at a chunk's size. -/
def cK (m : Msg) (body : List UInt8) (j : Nat) : Msg := { m with body := body, tk := .inSize, th := .no, size := 0, frm := j, at_ := j, word := [], left := 0 }
/-- A head that has been read. -/
structure Hd (m : Msg) : Prop where
  err : m.fErr = 0
  bound : m.bound = -1
  tr : m.trailers = false
  name : m.name = []
/-- The machine behind the last chunk's trailers. -/
def tK (m : Msg) (body : List UInt8) (o : List (List UInt8 × List UInt8)) (i j : Nat) : Msg := { m with body := body, tk := .no, th := .no, size := 0, frm := j - 2, at_ := j - 1 + 1, word := [], left := 0, trailers := true, lines := o.length, bound := (i : Int) + 2048, name := [] }
theorem exlD_at {f : Nat} (l : List UInt8) : ∀ j u r k, exlD f l j = .ok u r k → j ≤ k := by
  induction l with
  | nil => intro j u r k h; cases h
  | cons d q ih =>
    intro j u r k h
    rw [exlD_cons] at h
    by_cases hm : d.toNat ≠ 13 ∧ j = f + 64
    · rw [if_pos hm] at h; cases h
    · rw [if_neg hm] at h
      cases hx : txt d with
      | false => rw [hx, if_neg (by decide)] at h; injection h with _ _ h3; omega
      | true => rw [hx, if_pos rfl] at h; have := ih _ _ _ _ h; omega
theorem sizeD_at {most : Nat} {l r : List UInt8} {i j n : Nat} (h : sizeD most l i = .ok n r j) : i + 2 ≤ j ∧ r.length + 2 ≤ l.length := by
  unfold sizeD at h
  obtain ⟨a, r1, j1, h1, h⟩ := bind_ok h
  obtain ⟨d, q, rfl, -, -, h2, h3⟩ := hexD_ok _ _ _ _ _ _ h1
  by_cases hj : j1 = i
  · rw [if_pos hj] at h; cases h
  · rw [if_neg hj] at h
    obtain ⟨u, r2, j2, h4, h⟩ := bind_ok h
    obtain ⟨u2, r3, j3, h5, h⟩ := bind_ok h
    injection h with _ e1 e2
    subst e1 e2
    unfold endD at h5
    obtain ⟨u3, r4, j4, h6, h7⟩ := bind_ok h5
    obtain ⟨e3, e4, -⟩ := mustD_ok h6
    obtain ⟨e5, e6, -⟩ := mustD_ok h7
    have h8 : j1 ≤ j2 ∧ r2.length ≤ (d :: q).length := by
      have h4' : (if d = 59 then exlD i (d :: q) j1 else .ok () (d :: q) j1 : Re Unit) = .ok u r2 j2 := h4
      by_cases h59 : d = 59
      · rw [if_pos h59] at h4'
        obtain ⟨_, _, _, _, _, h9⟩ := exlD_ok _ _ _ _ _ h4'
        exact ⟨exlD_at _ _ _ _ _ h4', h9⟩
      · rw [if_neg h59] at h4'
        injection h4' with _ e7 e8
        subst e7 e8
        exact ⟨Nat.le_refl _, Nat.le_refl _⟩
    rw [e3, e5] at h8
    simp only [List.length_cons] at h8 h3
    omega
theorem chunksD_succ (most n : Nat) (body l : List UInt8) (i : Nat) : chunksD most (n + 1) body l i = (sizeD most l i).bind fun s r j =>
    if most < s + body.length then .bad i 182
    else if s = 0 then (headersD ((j : Int) + 2048) (r.length + 1) [] r j).bind fun o r k => .ok (body, o, j) r k
    else (someD s r j).bind fun x r j => (endD (-1) r j).bind fun _ r j => chunksD most n (body ++ x) r j := rfl
theorem someD_len {s : Nat} {l x r : List UInt8} {i j : Nat} (h : someD s l i = .ok x r j) : r.length ≤ l.length := by
  unfold someD at h
  by_cases hl : l.length < s
  · rw [if_pos hl] at h; cases h
  · rw [if_neg hl] at h
    injection h with _ h2
    rw [← h2, List.length_drop]; omega
theorem endD_len {b : Int} {l r : List UInt8} {i j : Nat} {u : Unit} (h : endD b l i = .ok u r j) : l.length = r.length + 2 ∧ j = i + 2 := by
  unfold endD at h
  obtain ⟨u1, r1, j1, h1, h2⟩ := bind_ok h
  obtain ⟨e1, e2, -⟩ := mustD_ok h1
  obtain ⟨e3, e4, -⟩ := mustD_ok h2
  rw [e1, e3]
  exact ⟨rfl, by omega⟩
theorem sle_fail {M : Msg} (h : M.most < M.size + M.body.length) : sizeLineEnds M = fail M M.frm 182 := if_pos h
theorem sle_last {M : Msg} (h : ¬ M.most < M.size + M.body.length) (h0 : M.size = 0) : sizeLineEnds M = headerLine { M with trailers := true, lines := 0, bound := M.at_ + 1 + 2048 } := by
  unfold sizeLineEnds
  rw [if_neg h, if_pos h0]
theorem sle_more {M : Msg} (h : ¬ M.most < M.size + M.body.length) (h0 : ¬ M.size = 0) : sizeLineEnds M = ((.lineEnd, .sizeLine), { M with left := M.size }) := by
  unfold sizeLineEnds
  rw [if_neg h, if_neg h0]
/-- The machine at a chunk's trailers. -/
def trK (m : Msg) (body : List UInt8) (i j : Nat) : Msg := { m with body := body, tk := .atLine, th := .no, size := 0, frm := j, at_ := j, word := [], left := 0, trailers := true, lines := 0, bound := (i : Int) + 2048, name := [] }
theorem trK_lns (m : Msg) (body : List UInt8) (i j : Nat) : lnsK (trK m body i j) [] [] j = trK m body i j := rfl
theorem trK_end (m : Msg) (body : List UInt8) (o : List (List UInt8 × List UInt8)) (i j k : Nat) : endK (trK m body i j) o [] k = tK m body o i k := rfl
/-- The machine within a chunk. -/
def yK (m : Msg) (body : List UInt8) (i s j : Nat) : Msg := { cK m body i with size := s, tk := .lineEnd, th := .sizeLine, at_ := j, left := s }
theorem ends_more {α : Type} {X : Msg} {k : α → Nat → Msg} (ht : X.tk ≠ .no) (he : X.fErr = 0) : Sim (.more : Re α) k X [] := Sim.nil (over_tk ht) he
theorem chunks_sim {m : Msg} (h : Hd m) (n : Nat) : ∀ (body l : List UInt8) (i : Nat), l.length < n → Sim (chunksD m.most n body l i) (fun x j => tK m x.1 x.2.1 x.2.2 j) (cK m body i) l := by
  induction n with
  | zero => intro body l i hl; omega
  | succ n ih =>
    intro body l i hl
    rw [chunksD_succ]
    have hz : Zs (cK m body i) i := ⟨rfl, rfl, rfl, h.err, h.bound, rfl, rfl, rfl⟩
    refine Sim.bind (size_sim hz l) fun s r j hx => ?_
    obtain ⟨hj, hr⟩ := sizeD_at hx
    obtain ⟨j', rfl⟩ : ∃ j', j = j' + 1 := ⟨j - 1, by omega⟩
    by_cases h1 : m.most < s + body.length
    · rw [if_pos h1, sle_fail (show _ < _ from h1)]
      exact Sim.dead ⟨rfl, rfl, rfl, rfl⟩
    · rw [if_neg h1]
      by_cases h2 : s = 0
      · subst h2
        rw [if_pos rfl, sle_last (show ¬ _ < _ from h1) rfl]
        have e : ∀ M : Msg, M = { cK m body i with size := 0, tk := .lineFeed, th := .sizeLineEnds, at_ := j' + 1 - 1 } → aft (headerLine { M with trailers := true, lines := 0, bound := M.at_ + 1 + 2048 }) = lnsK (trK m body (j' + 1) (j' + 1)) [] [] (j' + 1) := by
          intro M hM
          rw [trK_lns]
          have hb : ((M.at_ : Nat) : Int) + 1 + 2048 = ((j' + 1 : Nat) : Int) + 2048 := by rw [hM]; show ((j' + 1 - 1 : Nat) : Int) + 1 + 2048 = _; omega
          rw [hb, hM]
          unfold aft headerLine part trK cK
          simp [h.name]
        rw [e _ rfl]
        refine Sim.bind (headers_sim (m := trK m body (j' + 1) (j' + 1)) (b := ((j' + 1 : Nat) : Int) + 2048) (r.length + 1) [] [] r (j' + 1) ⟨rfl, rfl, rfl, h.err, rfl, rfl, rfl, rfl⟩ (fun _ => rfl) (Nat.lt_succ_self _)) fun o r2 k hx2 => Sim.here ?_
        rw [trK_end]
      · rw [if_neg h2, sle_more (show ¬ _ < _ from h1) h2]
        have e : ∀ M : Msg, M = { cK m body i with size := s, tk := .lineFeed, th := .sizeLineEnds, at_ := j' + 1 - 1 } → aft ((.lineEnd, .sizeLine), { M with left := M.size }) = yK m body i s (j' + 1) := by
          intro M hM
          rw [hM]
          rfl
        rw [e _ rfl]
        refine Sim.bind (some_sim s (yK m body i s (j' + 1)) r rfl h.err (by omega)) fun x r2 j2 hx2 => ?_
        have hr2 := someD_len hx2
        have ht : (bdK (yK m body i s (j' + 1)) x 0 j2).tk ≠ .no := by show Tk.lineEnd ≠ _; decide
        cases r2 with
        | nil => exact ends_more ht h.err
        | cons d q =>
          refine Sim.bind (ends_sim (X := bdK (yK m body i s (j' + 1)) x 0 j2) (t := .sizeLine) (d := d) (q := q) ht rfl h.err h.bound (fun e => ?_) (fun e => ?_)) fun _ r3 j3 hx3 => ?_
          · show lineEnd _ d = _
            unfold lineEnd
            rw [if_pos (by rw [e]; rfl)]
            rfl
          · show lineEnd _ d = _
            unfold lineEnd
            rw [if_neg (show ¬ d.toNat = 13 from fun e2 => e (UInt8.toNat_inj.1 e2))]
          · obtain ⟨hl3, hj3⟩ := endD_len hx3
            have e3 : aft (thenDo .sizeLine { bdK (yK m body i s (j' + 1)) x 0 j2 with tk := .lineFeed, th := .sizeLine, at_ := j3 - 1 }) = cK m (body ++ x) j3 := by
              obtain ⟨j4, rfl⟩ : ∃ j4, j3 = j4 + 1 := ⟨j3 - 1, by omega⟩
              rfl
            rw [e3]
            exact ih (body ++ x) r3 j3 (by omega)
end Go.Wb
namespace Go.Wb
/-- Empty lines ahead of a request. -/
def aheadD : Nat → List UInt8 → Nat → Re Unit
  | 0, _, _ => .more
  | _ + 1, [], _ => .more
  | n + 1, c :: r, i => if c = 13 then (endD (-1) (c :: r) i).bind fun _ r j => aheadD n r j else .ok () (c :: r) i
theorem aheadD_cons (n : Nat) (c : UInt8) (r : List UInt8) (i : Nat) : aheadD (n + 1) (c :: r) i = if c = 13 then (endD (-1) (c :: r) i).bind fun _ r j => aheadD n r j else .ok () (c :: r) i := rfl
/-- A machine ahead of a request. -/
structure Ah (m : Msg) : Prop where
  tk : m.tk = .ahead
  th : m.th = .no
  left : m.left = 0
  err : m.fErr = 0
  bound : m.bound = -1
  word : m.word = []
  tr : m.trailers = false
def ahK (m : Msg) (j : Nat) : Msg := { m with at_ := j }
theorem ahead_sim {m : Msg} (h : Ah m) (n : Nat) : ∀ (l : List UInt8) (i : Nat), l.length < n → Sim (aheadD n l i) (fun _ j => ahK m j) (ahK m i) l := by
  induction n with
  | zero => intro l i hl; omega
  | succ n ih =>
    intro l i hl
    have ht : (ahK m i).tk ≠ .no := by show m.tk ≠ _; rw [h.tk]; decide
    cases l with
    | nil => exact Sim.nil (over_tk ht) h.err
    | cons c r =>
      rw [aheadD_cons]
      by_cases hc : c = 13
      · rw [if_pos hc]
        refine Sim.bind (ends_sim (X := ahK m i) (t := .aheadAgain) (d := c) (q := r) ht h.left h.err h.bound (fun e => ?_) (fun e => absurd hc e)) fun _ r2 j hx => ?_
        · have e1 : takeDo (ahK m i).tk (ahK m i) c = ahead (ahK m i) c := by show takeDo m.tk _ c = _; rw [h.tk]; rfl
          rw [e1]
          unfold ahead
          rw [if_pos (by rw [e]; rfl)]
        · obtain ⟨hl2, hj⟩ := endD_len hx
          have e2 : aft (thenDo .aheadAgain { ahK m i with tk := .lineFeed, th := .aheadAgain, at_ := j - 1 }) = ahK m j := by
            obtain ⟨j', rfl⟩ : ∃ j', j = j' + 1 := ⟨j - 1, by omega⟩
            unfold aft thenDo aheadAgain ahK
            simp [h.tk, h.th]
          rw [e2]
          exact ih r2 j (by rw [List.length_cons] at hl hl2; omega)
      · rw [if_neg hc]
        exact Sim.here rfl
/-- The machine in a request's method. -/
def mtK (m : Msg) (i : Nat) (acc : List UInt8) (j : Nat) : Msg := { m with tk := .inMethod, th := .no, bound := (i : Int) + 2048, word := acc, at_ := j }
theorem first_method {m : Msg} (h : Ah m) (i : Nat) {c : UInt8} (hc : ¬ c = 13) (r : List UInt8) : rd (ahK m i) (c :: r) = rd (mtK m i [] i) (c :: r) := by
  have h13 : ¬ c.toNat = 13 := fun e => hc (UInt8.toNat_inj.1 e)
  rw [rdD_cons (over_tk (by show m.tk ≠ _; rw [h.tk]; decide)), rdD_cons (over_tk (by show Tk.inMethod ≠ _; decide))]
  have e : bite (ahK m i) c = bite (mtK m i [] i) c := by
    rw [bite_else (m := ahK m i) h.left (by show ¬ (i : Int) = m.bound; rw [h.bound]; omega), bite_else (m := mtK m i [] i) h.left (by show ¬ (i : Int) = (i : Int) + 2048; omega)]
    have e1 : takeDo (ahK m i).tk (ahK m i) c = inMethod { ahK m i with bound := (i : Int) + 2048 } c := by
      have : takeDo (ahK m i).tk (ahK m i) c = ahead (ahK m i) c := by show takeDo m.tk _ c = _; rw [h.tk]; rfl
      rw [this]
      unfold ahead
      rw [if_neg h13]
      rfl
    have e2 : takeDo (mtK m i [] i).tk (mtK m i [] i) c = inMethod (mtK m i [] i) c := rfl
    rw [e1, e2]
    unfold inMethod
    by_cases ht : tok c = true
    · rw [if_pos ht, if_pos ht]
      unfold keep mtK ahK
      simp [h.tr, h.word]
    · rw [if_neg ht, if_neg ht, if_neg (fun e => by have e3 : 0 < m.word.length := e.2; rw [h.word] at e3; cases e3), if_neg (fun e => by cases e.2)]
      rfl
  rw [e]
theorem method_sim {m : Msg} (h : Ah m) (i : Nat) (l : List UInt8) : Sim ((tokenD ((i : Int) + 2048) l i).bind fun a r j => (mustD ((i : Int) + 2048) 32 r j).bind fun _ r j => .ok a r j) (fun a j => { m with tk := .inTarget, th := .no, bound := (i : Int) + 2048, method := a, word := [], frm := j, at_ := j }) (mtK m i [] i) l := by
  have hrun := run_sim (b := (i : Int) + 2048) (p := tok) (mtK m i) (fun acc j => ⟨by show Tk.inMethod ≠ _; decide, h.left, h.err, rfl, rfl⟩) (fun acc j d hd hj => by
    rw [bite_else (m := mtK m i acc j) h.left hj]
    have e : takeDo (mtK m i acc j).tk (mtK m i acc j) d = ((.inMethod, .no), keep (mtK m i acc j) d) := by
      show inMethod _ d = _
      unfold inMethod
      rw [if_pos hd]
    rw [e]
    unfold keep mtK
    simp [h.tr]) l [] i
  unfold tokenD
  cases hx : runD ((i : Int) + 2048) tok [] l i with
  | bad a e => rw [hx] at hrun; exact hrun
  | more => rw [hx] at hrun; exact hrun
  | ok a r j =>
    rw [hx] at hrun
    obtain ⟨d, q, rfl, hd, hj, -⟩ := runD_ok l [] i a r j hx
    refine Sim.bind (x := .ok a (d :: q) j) (f := fun a r j => (if a = [] then (.bad j 180 : Re (List UInt8)) else .ok a r j).bind fun nm r j => (mustD ((i : Int) + 2048) 32 r j).bind fun _ r j => .ok nm r j) hrun fun a' r' i' e => ?_
    cases e
    have ho : over (mtK m i a j) = false := over_tk (by show Tk.inMethod ≠ _; decide)
    have hin : takeDo (mtK m i a j).tk (mtK m i a j) d = if d.toNat = 32 ∧ 0 < a.length then part { mtK m i a j with method := a } .inTarget else refuse (mtK m i a j) := by
      show inMethod _ d = _
      unfold inMethod
      rw [if_neg (by rw [hd]; decide)]
      rfl
    by_cases ha : a = []
    · rw [if_pos ha]
      refine Sim.fault ho (bite_fail (m := mtK m i a j) h.left hj ?_)
      rw [hin, if_neg (fun e => by rw [ha] at e; cases e.2)]
      rfl
    · rw [if_neg ha]
      show Sim ((mustD ((i : Int) + 2048) 32 (d :: q) j).bind fun _ r j => .ok a r j) _ _ _
      rw [mustD_cons, if_neg hj]
      by_cases hc : d = 32
      · rw [if_pos hc]
        refine Sim.step ho ?_
        rw [bite_else (m := mtK m i a j) h.left hj, hin, if_pos ⟨by rw [hc]; rfl, List.length_pos_iff.2 ha⟩]
        exact Sim.here rfl
      · rw [if_neg hc]
        refine Sim.fault ho (bite_fail (m := mtK m i a j) h.left hj ?_)
        rw [hin, if_neg (fun e => hc (UInt8.toNat_inj.1 e.1))]
        rfl
end Go.Wb
namespace Go.Wb
def tgtD (b : Int) (f : Nat) : List UInt8 → List UInt8 → Nat → Re (List UInt8)
  | _, [], _ => .more
  | acc, d :: r, i => if (i : Int) = b then .bad i 181 else if tgt d = false then .ok acc (d :: r) i else if i = f + 512 then .bad i 181 else tgtD b f (acc ++ [d]) r (i + 1)
theorem tgtD_cons (b : Int) (f : Nat) (acc : List UInt8) (d : UInt8) (r : List UInt8) (i : Nat) : tgtD b f acc (d :: r) i = if (i : Int) = b then .bad i 181 else if tgt d = false then .ok acc (d :: r) i else if i = f + 512 then .bad i 181 else tgtD b f (acc ++ [d]) r (i + 1) := rfl
/-- The document's target. -/
def targetD (b : Int) (l : List UInt8) (i : Nat) : Re (List UInt8) := (mustD b 47 l i).bind fun _ r j => tgtD b i [47] r j
/-- A machine at a target. -/
structure Ta (m : Msg) (b : Int) (i : Nat) : Prop where
  tk : m.tk = .inTarget
  th : m.th = .no
  left : m.left = 0
  err : m.fErr = 0
  bound : m.bound = b
  at_ : m.at_ = i
  word : m.word = []
  tr : m.trailers = false
def taK (m : Msg) (acc : List UInt8) (j : Nat) : Msg := { m with word := acc, at_ := j }
theorem ta_in {m : Msg} {b : Int} {i : Nat} (h : Ta m b i) (acc : List UInt8) (j : Nat) (d : UInt8) : takeDo (taK m acc j).tk (taK m acc j) d = inTarget (taK m acc j) d := by
  show takeDo m.tk _ d = _
  rw [h.tk]
  rfl
theorem ta_bite {m : Msg} {b : Int} {i : Nat} (h : Ta m b i) (acc : List UInt8) (j : Nat) (d : UInt8) (hj : ¬ (j : Int) = b) (h0 : ¬ (acc.length = 0 ∧ d.toNat ≠ 47)) (hd : tgt d = true) (h5 : ¬ acc.length = 512) : bite (taK m acc j) d = taK m (acc ++ [d]) (j + 1) := by
  rw [bite_else (m := taK m acc j) h.left (by show ¬ (j : Int) = m.bound; rw [h.bound]; exact hj), ta_in h]
  have h32 : ¬ d.toNat = 32 := fun e => by unfold tgt at hd; rw [e] at hd; cases hd
  have e : inTarget (taK m acc j) d = ((.inTarget, .no), taK m (acc ++ [d]) j) := by
    unfold inTarget
    rw [if_neg (show ¬ ((taK m acc j).word.length = 0 ∧ d.toNat ≠ 47) from h0), if_neg h32, if_neg (by rw [hd]; decide), if_neg (show ¬ (taK m acc j).word.length = 512 from h5)]
    show ((m.tk, m.th), keep (taK m acc j) d) = _
    have hk : keep (taK m acc j) d = taK m (acc ++ [d]) j := by unfold keep taK; simp [h.tr]
    rw [hk, Prod.mk.injEq, Prod.mk.injEq]
    exact ⟨⟨h.tk, h.th⟩, rfl⟩
  rw [e]
  unfold taK
  simp [h.tk, h.th]
theorem tgt_sim {m : Msg} {b : Int} {f : Nat} (h : Ta m b f) (l : List UInt8) : ∀ acc j, acc.length + f = j → acc ≠ [] → Sim (tgtD b f acc l j) (fun a j => taK m a j) (taK m acc j) l := by
  induction l with
  | nil => intro acc j _ _; exact Sim.nil (over_tk (by show m.tk ≠ _; rw [h.tk]; decide)) h.err
  | cons d r ih =>
    intro acc j hj ha
    have ho : over (taK m acc j) = false := over_tk (by show m.tk ≠ _; rw [h.tk]; decide)
    have h0 : ¬ (acc.length = 0 ∧ d.toNat ≠ 47) := fun e => ha (List.eq_nil_of_length_eq_zero e.1)
    rw [tgtD_cons]
    by_cases hi : (j : Int) = b
    · rw [if_pos hi]
      exact Sim.fault ho (bite_bound (m := taK m acc j) h.left (by show (j : Int) = m.bound; rw [h.bound]; exact hi) d)
    · rw [if_neg hi]
      cases hd : tgt d with
      | false => rw [if_pos rfl]; exact Sim.here rfl
      | true =>
        rw [if_neg (by decide)]
        by_cases h5 : j = f + 512
        · rw [if_pos h5]
          refine Sim.fault ho (bite_fail (m := taK m acc j) h.left (by show ¬ (j : Int) = m.bound; rw [h.bound]; exact hi) ?_)
          rw [ta_in h]
          have h32 : ¬ d.toNat = 32 := fun e => by unfold tgt at hd; rw [e] at hd; cases hd
          unfold inTarget
          rw [if_neg (show ¬ ((taK m acc j).word.length = 0 ∧ d.toNat ≠ 47) from h0), if_neg h32, if_neg (by rw [hd]; decide), if_pos (show (taK m acc j).word.length = 512 by show acc.length = 512; omega)]
          rfl
        · rw [if_neg h5]
          refine Sim.step ho ?_
          rw [ta_bite h acc j d hi h0 hd (by omega)]
          exact ih (acc ++ [d]) (j + 1) (by rw [List.length_append]; show acc.length + 1 + f = _; omega) (by simp)
theorem tgtD_ok {b : Int} {f : Nat} (l : List UInt8) : ∀ acc i a r j, tgtD b f acc l i = .ok a r j → ∃ d q, r = d :: q ∧ tgt d = false ∧ ¬ (j : Int) = b ∧ acc.length ≤ a.length ∧ r.length ≤ l.length := by
  induction l with
  | nil => intro acc i a r j h; cases h
  | cons d r ih =>
    intro acc i a q j h
    rw [tgtD_cons] at h
    by_cases hi : (i : Int) = b
    · rw [if_pos hi] at h; cases h
    · rw [if_neg hi] at h
      cases hd : tgt d with
      | false =>
        rw [hd, if_pos rfl] at h
        injection h with h1 h2 h3
        subst h1 h2 h3
        exact ⟨d, r, rfl, hd, hi, Nat.le_refl _, Nat.le_refl _⟩
      | true =>
        rw [hd, if_neg (by decide)] at h
        by_cases h5 : i = f + 512
        · rw [if_pos h5] at h; cases h
        · rw [if_neg h5] at h
          obtain ⟨d2, q2, h1, h2, h3, h4, h6⟩ := ih _ _ _ _ _ h
          exact ⟨d2, q2, h1, h2, h3, by rw [List.length_append] at h4; omega, by rw [List.length_cons]; omega⟩
theorem target_sim {m : Msg} {b : Int} {i : Nat} (h : Ta m b i) (l : List UInt8) : Sim ((targetD b l i).bind fun a r j => (mustD b 32 r j).bind fun _ r j => .ok a r j) (fun a j => { m with tk := .inVersion, th := .requestLineEnds, target := a, word := [], frm := j, at_ := j }) m l := by
  have hm : m = taK m [] i := by unfold taK; rw [← h.word, ← h.at_]
  have hgo : Sim ((targetD b l i).bind fun a r j => (mustD b 32 r j).bind fun _ r j => .ok a r j) (fun a j => { m with tk := .inVersion, th := .requestLineEnds, target := a, word := [], frm := j, at_ := j }) (taK m [] i) l := by
    have h1 : Sim (mustD b 47 l i) (fun _ j => taK m [47] j) (taK m [] i) l := must_sim (m := taK m [] i) l (by show m.tk ≠ _; rw [h.tk]; decide) h.left h.err h.bound (fun d hd => by
      rw [ta_in h]
      unfold inTarget
      rw [if_pos ⟨rfl, fun e => hd (UInt8.toNat_inj.1 e)⟩]) (fun hj => ta_bite h [] i 47 hj (fun e => e.2 rfl) rfl (by decide))
    have h2 : Sim (targetD b l i) (fun a j => taK m a j) (taK m [] i) l := by
      unfold targetD
      refine Sim.bind h1 fun _ r j hx => ?_
      obtain ⟨-, e, -⟩ := mustD_ok hx
      exact tgt_sim h r [47] j (by show 1 + i = j; omega) (by simp)
    refine Sim.bind h2 fun a r j hx => ?_
    unfold targetD at hx
    obtain ⟨u, r1, j1, -, hx⟩ := bind_ok hx
    obtain ⟨d, q, rfl, hd, hj, ha, -⟩ := tgtD_ok _ _ _ _ _ _ hx
    have ho : over (taK m a j) = false := over_tk (by show m.tk ≠ _; rw [h.tk]; decide)
    have h0 : ¬ (a.length = 0 ∧ d.toNat ≠ 47) := fun e => by have : 1 ≤ a.length := ha; omega
    have hbd : ¬ ((taK m a j).at_ : Int) = (taK m a j).bound := by show ¬ (j : Int) = m.bound; rw [h.bound]; exact hj
    rw [mustD_cons, if_neg hj]
    by_cases hc : d = 32
    · rw [if_pos hc]
      refine Sim.step ho ?_
      have e : inTarget (taK m a j) d = ((.inVersion, .requestLineEnds), (part { taK m a j with target := a } .inVersion).2) := by
        unfold inTarget
        rw [if_neg (show ¬ ((taK m a j).word.length = 0 ∧ d.toNat ≠ 47) from h0), if_pos (by rw [hc]; rfl)]
        rfl
      rw [bite_else (m := taK m a j) h.left hbd, ta_in h, e]
      exact Sim.here rfl
    · rw [if_neg hc]
      refine Sim.fault ho (bite_fail (m := taK m a j) h.left hbd ?_)
      rw [ta_in h]
      unfold inTarget
      rw [if_neg (show ¬ ((taK m a j).word.length = 0 ∧ d.toNat ≠ 47) from h0), if_neg (show ¬ d.toNat = 32 from fun e => hc (UInt8.toNat_inj.1 e)), if_pos hd]
      rfl
  rw [← hm] at hgo
  exact hgo
end Go.Wb
namespace Go.Wb
theorem endsb_sim {X : Msg} {t : Th} {b : Int} (l : List UInt8) (ht : X.tk = .lineEnd) (hth : X.th = t) (hl : X.left = 0) (he : X.fErr = 0) (hb : X.bound = b) :
    Sim (endD b l X.at_) (fun _ j => aft (thenDo t { X with tk := .lineFeed, th := t, at_ := j - 1 })) X l := by
  unfold endD
  have hin : ∀ d, takeDo X.tk X d = lineEnd X d := fun d => by rw [ht]; rfl
  have h1 : Sim (mustD b 13 l X.at_) (fun _ j => { X with tk := .lineFeed, th := t, at_ := j }) X l := must_sim l (by rw [ht]; decide) hl he hb (fun d hd => by
    rw [hin]
    unfold lineEnd
    rw [if_neg (show ¬ d.toNat = 13 from fun e => hd (UInt8.toNat_inj.1 e))]) (fun hi => by
    rw [bite_else hl (by rw [hb]; exact hi), hin]
    have e : lineEnd X 13 = ((.lineFeed, t), X) := by unfold lineEnd; rw [if_pos (show (13 : UInt8).toNat = 13 from rfl), hth]
    rw [e])
  refine Sim.bind h1 fun _ r j _ => ?_
  exact feed_sim (b := b) (t := t) (m := { X with tk := .lineFeed, th := t, at_ := j }) r rfl rfl hl he hb rfl
/-- The document's head of a request, behind empty lines. -/
def reqD (n : Nat) (l : List UInt8) (i : Nat) : Re (List UInt8 × List UInt8 × Nat × List (List UInt8 × List UInt8)) :=
  let b : Int := (i : Int) + 2048
  ((tokenD b l i).bind fun a r j => (mustD b 32 r j).bind fun _ r j => .ok a r j).bind fun a r j => ((targetD b r j).bind fun t r j => (mustD b 32 r j).bind fun _ r j => .ok t r j).bind fun t r j =>
  (versionD b r j).bind fun v r j => (endD b r j).bind fun _ r j => (headersD b n [] r j).bind fun o r j => .ok (a, t, v, o) r j
/-- The machine at a request's headers. -/
def qK (m : Msg) (i : Nat) (a t : List UInt8) (v j : Nat) : Msg := { m with bound := (i : Int) + 2048, method := a, target := t, newer := decide (v = 11), tk := .atLine, th := .no, at_ := j, frm := j, word := [] }
theorem Sim.len {α : Type} {x : Re α} {k : α → Nat → Msg} {m : Msg} {l : List UInt8} (h : Sim x k m l) {a : α} {r : List UInt8} {i : Nat} (e : x = .ok a r i) : r.length ≤ l.length := by
  subst e
  exact h.1
theorem req_sim {m : Msg} (h : Ah m) (hli : m.lines = 0) (hna : m.name = []) (hhe : m.headers = []) (n i : Nat) {c : UInt8} (hc : ¬ c = 13) (r0 : List UInt8) (hn : (c :: r0).length < n) :
    Sim (reqD n (c :: r0) i) (fun x j => endK (qK m i x.1 x.2.1 x.2.2.1 j) x.2.2.2 [] j) (ahK m i) (c :: r0) := by
  refine Sim.eq (first_method h i hc r0) ?_
  unfold reqD
  have h1 := method_sim h i (c :: r0)
  refine Sim.bind h1 fun a r j hx => ?_
  have l1 := Sim.len h1 hx
  have h2 := target_sim (m := { m with tk := .inTarget, th := .no, bound := (i : Int) + 2048, method := a, word := [], frm := j, at_ := j }) (b := (i : Int) + 2048) (i := j) ⟨rfl, rfl, h.left, h.err, rfl, rfl, rfl, h.tr⟩ r
  refine Sim.bind h2 fun t r2 j2 hx2 => ?_
  have l2 := Sim.len h2 hx2
  have h3 := version_sim (m := { m with tk := .inVersion, th := .requestLineEnds, bound := (i : Int) + 2048, method := a, target := t, word := [], frm := j2, at_ := j2 }) (b := (i : Int) + 2048) (i := j2) ⟨rfl, h.left, h.err, rfl, rfl, rfl, rfl, h.tr⟩ (t := (.lineEnd, .headerLine)) (fun M => rfl) r2
  refine Sim.bind h3 fun v r3 j3 hx3 => ?_
  have l3 := Sim.len h3 hx3
  have h4 := endsb_sim (X := vdK { m with tk := .inVersion, th := .requestLineEnds, bound := (i : Int) + 2048, method := a, target := t, word := [], frm := j2, at_ := j2 } (.lineEnd, .headerLine) v j3) (t := .headerLine) (b := (i : Int) + 2048) r3 rfl rfl h.left h.err rfl
  refine Sim.bind h4 fun _ r4 j4 hx4 => ?_
  have l4 := Sim.len h4 hx4
  obtain ⟨-, e4⟩ := endD_len hx4
  have e : aft (thenDo .headerLine { vdK { m with tk := .inVersion, th := .requestLineEnds, bound := (i : Int) + 2048, method := a, target := t, word := [], frm := j2, at_ := j2 } (.lineEnd, .headerLine) v j3 with tk := .lineFeed, th := .headerLine, at_ := j4 - 1 }) = lnsK (qK m i a t v j4) [] [] j4 := by
    rw [lns_start (m := qK m i a t v j4) hli hna hhe h.tr j4 rfl rfl]
    obtain ⟨j5, rfl⟩ : ∃ j5, j4 = j5 + 1 := ⟨j4 - 1, by omega⟩
    rfl
  rw [e]
  refine Sim.bind (headers_sim (m := qK m i a t v j4) (b := (i : Int) + 2048) n [] [] r4 j4 ⟨rfl, rfl, h.left, h.err, rfl, rfl, rfl, rfl⟩ (fun _ => rfl) (by omega)) fun o r6 j6 _ => Sim.here ?_
  rfl
/-- What the document reads behind a head. -/
def bodyD (H : List (List UInt8 × List UInt8)) (resp newer : Bool) (most s : Nat) (r : List UInt8) (j : Nat) : Re (List UInt8 × Option (List (List UInt8 × List UInt8) × Nat)) :=
  if (rulesD H resp newer most).1 ≠ 0 then .bad j (rulesD H resp newer most).1
  else if bare s then .ok ([], none) r j
  else match (rulesD H resp newer most).2 with
    | none => (chunksD most (r.length + 1) [] r j).bind fun x r k => .ok (x.1, some x.2) r k
    | some n => (someD n r j).bind fun x r k => .ok (x, none) r k
/-- A message behind its head. -/
def gK (m : Msg) (o : List (List UInt8 × List UInt8)) (j : Nat) : Msg := { m with lines := o.length, headers := o.map hdOf, at_ := j, frm := j, bound := -1, word := [], name := [], tk := .no, th := .no }
theorem endK_is {m : Msg} (ht : m.trailers = false) (o : List (List UInt8 × List UInt8)) (j : Nat) : endK m o [] j = aft (headEnds { m with lines := o.length, headers := o.map hdOf, at_ := j - 1, frm := j - 2, bound := -1, word := [], name := [], tk := .lineFeed, th := .emptyLineEnds }) := by
  unfold endK emptyLineEnds lnsK
  simp [ht]
  rfl
end Go.Wb
namespace Go.Wb
/-- A message that is whole. -/
def bfK (G : Msg) (x : List UInt8 × Option (List (List UInt8 × List UInt8) × Nat)) (k : Nat) : Msg := match x.2 with
  | none => { G with last := isLast G, body := x.1, left := 0, tk := .no, th := .no, at_ := k }
  | some y => tK { G with last := isLast G } x.1 y.1 y.2 k
theorem he_fail {G : Msg} (h : (frame G).2.2 ≠ 0) : headEnds G = fail G (G.at_ + 1) (frame G).2.2 := if_pos h
theorem he_bare {G : Msg} (h : ¬ (frame G).2.2 ≠ 0) (hb : bare G.status = true) : headEnds G = ((.no, .no), { G with last := isLast G }) := by
  unfold headEnds
  rw [if_neg h, if_pos hb]
theorem he_chunks {G : Msg} (h : ¬ (frame G).2.2 ≠ 0) (hb : bare G.status = false) (hc : (frame G).2.1 = true) : headEnds G = sizeLine { G with last := isLast G } := by
  unfold headEnds
  rw [if_neg h, if_neg (by rw [hb]; decide), if_pos hc]
theorem he_some {G : Msg} (h : ¬ (frame G).2.2 ≠ 0) (hb : bare G.status = false) (hc : (frame G).2.1 = false) : headEnds G = ((.no, .no), { G with last := isLast G, left := (frame G).1 }) := by
  unfold headEnds
  rw [if_neg h, if_neg (by rw [hb]; decide), if_neg (by rw [hc]; decide)]
structure Gd (G : Msg) (H : List (List UInt8 × List UInt8)) (resp : Bool) (j : Nat) : Prop where
  left : G.left = 0
  err : G.fErr = 0
  bound : G.bound = -1
  body : G.body = []
  tr : G.trailers = false
  name : G.name = []
  hd : G.headers = H
  at_ : G.at_ + 1 = j
  st : G.status = 0 ↔ resp = false
theorem aft_no {G : Msg} {H : List (List UInt8 × List UInt8)} {resp : Bool} {j : Nat} (h : Gd G H resp j) : aft ((.no, .no), { G with last := isLast G }) = bfK G ([], none) j := by
  unfold aft bfK
  have e1 := h.left
  have e2 := h.body
  have e3 := h.at_
  simp only
  rw [← e3, ← e1, ← e2]
theorem aft_size {G : Msg} {H : List (List UInt8 × List UInt8)} {resp : Bool} {j : Nat} (h : Gd G H resp j) : aft (sizeLine { G with last := isLast G }) = cK { G with last := isLast G } [] j := by
  have e3 := h.at_
  subst e3
  unfold aft sizeLine part cK
  simp [h.left, h.body]
theorem body_sim {G : Msg} {H : List (List UInt8 × List UInt8)} {resp : Bool} {j : Nat} (h : Gd G H resp j) (r : List UInt8) : Sim (bodyD H resp G.newer G.most G.status r j) (fun x k => bfK G x k) (aft (headEnds G)) r := by
  obtain ⟨f1, f2⟩ := frameD_is h.hd h.st
  unfold bodyD
  by_cases he : (rulesD H resp G.newer G.most).1 ≠ 0
  · rw [if_pos he, he_fail (by rw [f1]; exact he)]
    refine Sim.dead ⟨rfl, rfl, ?_, ?_⟩
    · exact h.at_
    · exact f1
  · rw [if_neg he]
    have he2 : ¬ (frame G).2.2 ≠ 0 := by rw [f1]; exact he
    have f3 := f2 (by simpa using he)
    cases hb : bare G.status with
    | true =>
      rw [if_pos rfl, he_bare he2 hb, aft_no h]
      exact Sim.here rfl
    | false =>
      rw [if_neg (by decide)]
      cases hx : (rulesD H resp G.newer G.most).2 with
      | none =>
        rw [hx] at f3
        rw [he_chunks he2 hb f3, aft_size h]
        refine Sim.bind (chunks_sim (m := { G with last := isLast G }) ⟨h.err, h.bound, h.tr, h.name⟩ (r.length + 1) [] r j (Nat.lt_succ_self _)) fun x r2 k _ => Sim.here rfl
      | some n =>
        rw [hx] at f3
        obtain ⟨f4, f5⟩ := f3
        rw [he_some he2 hb f4, f5]
        by_cases hn : n = 0
        · subst hn
          have e : aft ((.no, .no), { G with last := isLast G, left := 0 }) = bfK G ([], none) j := by
            rw [← aft_no h]
            have := h.left
            unfold aft
            simp [this]
          rw [e]
          exact Sim.bind (k := fun x k => bfK G (x, none) k) (Sim.here (a := []) (i := j) rfl : Sim (someD 0 r j) _ _ r) fun x r2 k _ => Sim.here rfl
        · have hs := some_sim n (aft ((.no, .no), { G with last := isLast G, left := n })) r rfl h.err (by omega)
          have ha : (aft ((.no, .no), { G with last := isLast G, left := n })).at_ = j := h.at_
          rw [ha] at hs
          refine Sim.bind hs fun x r2 k _ => Sim.here ?_
          unfold bfK bdK aft
          simp [h.body]
/-- A whole message: the document's and the machine's. -/
theorem bfK_over (G : Msg) (x : List UInt8 × Option (List (List UInt8 × List UInt8) × Nat)) (k : Nat) : over (bfK G x k) = true := by
  obtain ⟨b, y⟩ := x
  cases y <;> rfl
theorem bfK_parts (G : Msg) (x : List UInt8 × Option (List (List UInt8 × List UInt8) × Nat)) (k : Nat) : (bfK G x k).fErr = G.fErr ∧ (bfK G x k).method = G.method ∧ (bfK G x k).target = G.target ∧ (bfK G x k).status = G.status ∧ (bfK G x k).headers = G.headers ∧ (bfK G x k).body = x.1 ∧ (bfK G x k).last = isLast G := by
  obtain ⟨b, y⟩ := x
  cases y <;> exact ⟨rfl, rfl, rfl, rfl, rfl, rfl, rfl⟩
end Go.Wb
namespace Go.Wb
theorem headersD_at {b : Int} (n : Nat) : ∀ out l i o r j, headersD b n out l i = .ok o r j → 2 ≤ j := by
  induction n with
  | zero => intro out l i o r j h; cases h
  | succ n ih =>
    intro out l i o r j h
    cases l with
    | nil => cases h
    | cons c q =>
      rw [headersD_cons] at h
      by_cases h1 : (i : Int) = b
      · rw [if_pos h1] at h; cases h
      · rw [if_neg h1] at h
        by_cases h2 : c = 13
        · rw [if_pos h2] at h
          obtain ⟨u, r1, j1, h3, h4⟩ := bind_ok h
          injection h4 with _ _ h5
          have := (endD_len h3).2
          omega
        · rw [if_neg h2] at h
          by_cases h3 : out.length = 32
          · rw [if_pos h3] at h; cases h
          · rw [if_neg h3] at h
            obtain ⟨x, r1, j1, h4, h5⟩ := bind_ok h
            exact ih _ _ _ _ _ _ h5
/-- The document's reading of a response. -/
def resD (l : List UInt8) : Re ((Nat × Nat × List (List UInt8 × List UInt8)) × Nat × List UInt8 × Option (List (List UInt8 × List UInt8) × Nat)) :=
  (respD 2048 (l.length + 1) l 0).bind fun x r j => (bodyD (x.2.2.map hdOf) true (decide (x.1 = 11)) 999999999 x.2.1 r j).bind fun y r k => .ok (x, j, y) r k
/-- Does the connection end? -/
def endsD (H : List (List UInt8 × List UInt8)) (newer : Bool) : Bool := if newer then hasItem (valsD H wConn) wClose else !hasItem (valsD H wConn) wKeep || hasItem (valsD H wConn) wClose
/-- A request, behind empty lines. -/
def requD (l : List UInt8) (i : Nat) : Re (Nat × (List UInt8 × List UInt8 × Nat × List (List UInt8 × List UInt8)) × Nat × List UInt8 × Option (List (List UInt8 × List UInt8) × Nat)) :=
  (aheadD (l.length + 1) l i).bind fun _ r i0 => (reqD (l.length + 1) r i0).bind fun x r j => (bodyD (x.2.2.2.map hdOf) false (decide (x.2.2.1 = 11)) 6000 0 r j).bind fun y r k => .ok (i0, x, j, y) r k
def reqG (n i0 : Nat) (x : List UInt8 × List UInt8 × Nat × List (List UInt8 × List UInt8)) (j : Nat) : Msg := { qK (newReq n) i0 x.1 x.2.1 x.2.2.1 j with lines := x.2.2.2.length, headers := x.2.2.2.map hdOf, at_ := j - 1, frm := j - 2, bound := -1, word := [], name := [], tk := .lineFeed, th := .emptyLineEnds }
theorem aheadD_ok (n : Nat) : ∀ l i u r j, aheadD n l i = .ok u r j → ∃ c q, r = c :: q ∧ ¬ c = 13 ∧ r.length ≤ l.length := by
  induction n with
  | zero => intro l i u r j h; cases h
  | succ n ih =>
    intro l i u r j h
    cases l with
    | nil => cases h
    | cons c q =>
      rw [aheadD_cons] at h
      by_cases hc : c = 13
      · rw [if_pos hc] at h
        obtain ⟨u1, r1, j1, h1, h2⟩ := bind_ok h
        have hl := (endD_len h1).1
        obtain ⟨c2, q2, e1, e2, e3⟩ := ih _ _ _ _ _ h2
        exact ⟨c2, q2, e1, e2, by omega⟩
      · rw [if_neg hc] at h
        injection h with _ h2 h3
        subst h2 h3
        exact ⟨c, q, rfl, hc, Nat.le_refl _⟩
theorem requ_sim (n : Nat) (l : List UInt8) : Sim (requD l n) (fun z k => bfK (reqG n z.1 z.2.1 z.2.2.1) z.2.2.2 k) (newReq n) l := by
  unfold requD
  have ha : Ah (newReq n) := ⟨rfl, rfl, rfl, rfl, rfl, rfl, rfl⟩
  have h1 := ahead_sim ha (l.length + 1) l n (Nat.lt_succ_self _)
  refine Sim.bind (m := ahK (newReq n) n) h1 fun u r i0 hx => ?_
  obtain ⟨c, q, rfl, hc, hl⟩ := aheadD_ok _ _ _ _ _ _ hx
  refine Sim.bind (req_sim ha rfl rfl rfl (l.length + 1) i0 hc q (by omega)) fun x r2 j hx2 => ?_
  have h3 : 2 ≤ j := by
    unfold reqD at hx2
    obtain ⟨a, r3, j3, _, hx2⟩ := bind_ok hx2
    obtain ⟨t, r4, j4, _, hx2⟩ := bind_ok hx2
    obtain ⟨v, r5, j5, _, hx2⟩ := bind_ok hx2
    obtain ⟨u1, r6, j6, _, hx2⟩ := bind_ok hx2
    obtain ⟨o, r7, j7, h7, hx2⟩ := bind_ok hx2
    injection hx2 with _ _ e3
    rw [← e3]
    exact headersD_at _ _ _ _ _ _ _ h7
  have e : endK (qK (newReq n) i0 x.1 x.2.1 x.2.2.1 j) x.2.2.2 [] j = aft (headEnds (reqG n i0 x j)) := endK_is rfl x.2.2.2 j
  rw [e]
  have hg : Gd (reqG n i0 x j) (x.2.2.2.map hdOf) false j := ⟨rfl, rfl, rfl, rfl, rfl, rfl, rfl, by show j - 1 + 1 = j; omega, ⟨fun _ => rfl, fun _ => rfl⟩⟩
  exact Sim.bind (body_sim hg r2) fun y r3 k _ => Sim.here rfl
end Go.Wb
