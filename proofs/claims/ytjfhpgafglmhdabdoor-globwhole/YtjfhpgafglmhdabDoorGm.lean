/-
  GLOB: what a row of parts means, plainly; the track reckons it. Nothing of the program.
-/
import Derived.Test.YtjfhpgafglmhdabDoorGp
namespace Go.Gl
/-- What a part means. -/
def means : P → List Nat → Prop
  | .fix r, a => a = [r]
  | .one, a => ∃ c, a = [c]
  | .any, _ => True
/-- What a row of parts means. -/
def Mp : List P → List Nat → Prop
  | [], s => s = []
  | p :: ps, s => ∃ a b, s = a ++ b ∧ means p a ∧ Mp ps b
theorem Mp_app : ∀ (ps qs : List P) (s : List Nat), Mp (ps ++ qs) s ↔ ∃ a b, s = a ++ b ∧ Mp ps a ∧ Mp qs b := by
  intro ps
  induction ps with
  | nil =>
    intro qs s
    constructor
    · intro h; exact ⟨[], s, rfl, rfl, h⟩
    · rintro ⟨a, b, rfl, rfl, h⟩; exact h
  | cons p ps ih =>
    intro qs s
    constructor
    · rintro ⟨a, b, rfl, h1, h2⟩
      obtain ⟨c, d, rfl, h3, h4⟩ := (ih qs b).1 h2
      exact ⟨a ++ c, d, by simp, ⟨a, c, rfl, h1, h3⟩, h4⟩
    · rintro ⟨a, b, rfl, ⟨c, d, rfl, h1, h2⟩, h3⟩
      exact ⟨c, d ++ b, by simp, h1, (ih qs _).2 ⟨d, b, rfl, h2, h3⟩⟩
theorem Mp_one (p : P) (s : List Nat) : Mp [p] s ↔ means p s := by
  constructor
  · rintro ⟨a, b, rfl, h, rfl⟩; simpa using h
  · intro h; exact ⟨s, [], by simp, h, rfl⟩
theorem Mp_snoc (ps : List P) (p : P) (s : List Nat) : Mp (ps ++ [p]) s ↔ ∃ a b, s = a ++ b ∧ Mp ps a ∧ means p b := by
  rw [Mp_app]
  constructor
  · rintro ⟨a, b, h, h1, h2⟩; exact ⟨a, b, h, h1, (Mp_one p b).1 h2⟩
  · rintro ⟨a, b, h, h1, h2⟩; exact ⟨a, b, h, h1, (Mp_one p b).2 h2⟩
theorem take_snoc (ps : List P) (n : Nat) (h : n < ps.length) : ps.take (n + 1) = ps.take n ++ [ps[n]'h] := by
  rw [List.take_add_one, List.getElem?_eq_getElem h]; rfl
/-- The state tells of each number of parts whether they mean one of the texts. -/
def Good (ps : List P) (f : Nat → Bool) (T : List Nat → Prop) : Prop := ∀ n, n ≤ ps.length → (f n = true ↔ ∃ t, T t ∧ Mp (ps.take n) t)
theorem Good.none (ps : List P) : Good ps (fun _ => false) (fun _ => False) := fun n _ => by simp
theorem Good.mono {ps : List P} {f : Nat → Bool} {T T' : List Nat → Prop} (h : Good ps f T) (hT : ∀ t, T t ↔ T' t) : Good ps f T' := fun n hn => by
  rw [h n hn]; simp only [hT]
theorem app_nil {a b : List Nat} (h : [] = a ++ b) : a = [] ∧ b = [] := by simpa using h.symm
theorem Good.begin {ps : List P} {f : Nat → Bool} {T : List Nat → Prop} (h : Good ps f T) : Good ps (bg ps f) (fun t => T t ∨ t = []) := by
  intro n
  unfold bg
  induction n with
  | zero =>
    intro _
    simp only [spF, beq_self_eq_true, Bool.true_or, true_iff]
    exact ⟨[], .inr rfl, rfl⟩
  | succ n ih =>
    intro hn
    have hi := ih (by omega)
    have hf := h (n + 1) hn
    have hlt : n < ps.length := by omega
    have hg : ps[n]? = some (ps[n]'hlt) := List.getElem?_eq_getElem hlt
    rw [spF, hg]
    rw [take_snoc ps n hlt] at hf ⊢
    generalize ps[n]'hlt = p at *
    simp only [Bool.or_eq_true, Bool.and_eq_true, decide_eq_true_eq, Option.some.injEq]
    constructor
    · rintro ((h0 | h0) | ⟨hp, h0⟩)
      · simp at h0
      · obtain ⟨t, h1, h2⟩ := hf.1 h0; exact ⟨t, .inl h1, h2⟩
      · obtain ⟨t, h1, h2⟩ := hi.1 h0
        exact ⟨t, h1, (Mp_snoc _ _ _).2 ⟨t, [], by simp, h2, by rw [hp]; trivial⟩⟩
    · rintro ⟨t, h1 | h1, h2⟩
      · exact .inl (.inr (hf.2 ⟨t, h1, h2⟩))
      · subst h1
        obtain ⟨a, b, h3, h4, h5⟩ := (Mp_snoc _ _ _).1 h2
        obtain ⟨rfl, rfl⟩ := app_nil h3
        refine .inr ⟨?_, hi.2 ⟨[], .inr rfl, h4⟩⟩
        cases p with
        | fix r => cases h5
        | one => obtain ⟨c, hc⟩ := h5; cases hc
        | any => rfl
theorem snoc_split {t a b : List Nat} {c : Nat} (h : t ++ [c] = a ++ b) : (b = [] ∧ a = t ++ [c]) ∨ ∃ b', b = b' ++ [c] ∧ t = a ++ b' := by
  rcases List.eq_nil_or_concat b with rfl | ⟨b', d, rfl⟩
  · left; simpa using h.symm
  · right
    have h' : t ++ [c] = (a ++ b') ++ [d] := by simpa using h
    have := List.append_inj' h' rfl
    simp at this
    exact ⟨b', by simp [this.2], this.1⟩
theorem Good.step {ps : List P} {f : Nat → Bool} {T : List Nat → Prop} (h : Good ps f T) (c : Nat) : Good ps (pass ps f c) (fun t => ∃ s, T s ∧ t = s ++ [c]) := by
  intro n
  unfold pass
  induction n with
  | zero =>
    intro _
    simp only [spF, paF, Bool.false_eq_true, false_iff]
    rintro ⟨t, ⟨s, _, rfl⟩, h2⟩
    exact absurd h2 (by simp [Mp])
  | succ n ih =>
    intro hn
    have hi := ih (by omega)
    have hf := h (n + 1) hn
    have hf0 := h n (by omega)
    have hlt : n < ps.length := by omega
    have hg : ps[n]? = some (ps[n]'hlt) := List.getElem?_eq_getElem hlt
    rw [spF, paF, hg]
    rw [take_snoc ps n hlt] at hf ⊢
    generalize ps[n]'hlt = p at *
    cases p with
    | any =>
      simp only [Bool.or_eq_true, Bool.and_eq_true, decide_eq_true_eq, true_and]
      rw [hf, hi]
      constructor
      · rintro (⟨t, h1, h2⟩ | ⟨t, ⟨s, h1, rfl⟩, h2⟩)
        · obtain ⟨a, b, rfl, h4, _⟩ := (Mp_snoc _ _ _).1 h2
          exact ⟨_, ⟨_, h1, rfl⟩, (Mp_snoc _ _ _).2 ⟨a, b ++ [c], by simp, h4, trivial⟩⟩
        · exact ⟨_, ⟨s, h1, rfl⟩, (Mp_snoc _ _ _).2 ⟨s ++ [c], [], by simp, h2, trivial⟩⟩
      · rintro ⟨t, ⟨s, h1, rfl⟩, h2⟩
        obtain ⟨a, b, h3, h4, _⟩ := (Mp_snoc _ _ _).1 h2
        rcases snoc_split h3 with ⟨rfl, rfl⟩ | ⟨b', rfl, rfl⟩
        · exact .inr ⟨_, ⟨s, h1, rfl⟩, h4⟩
        · exact .inl ⟨_, h1, (Mp_snoc _ _ _).2 ⟨a, b', rfl, h4, trivial⟩⟩
    | one =>
      have hne : decide (some P.one = some P.any) = false := rfl
      simp only [hne, Bool.false_and, Bool.or_false]
      rw [hf0]
      constructor
      · rintro ⟨t, h1, h2⟩
        exact ⟨_, ⟨t, h1, rfl⟩, (Mp_snoc _ _ _).2 ⟨t, [c], rfl, h2, c, rfl⟩⟩
      · rintro ⟨t, ⟨s, h1, rfl⟩, h2⟩
        obtain ⟨a, b, h3, h4, d, rfl⟩ := (Mp_snoc _ _ _).1 h2
        have := List.append_inj' h3 rfl
        exact ⟨s, h1, by rw [this.1]; exact h4⟩
    | fix q =>
      have hne : decide (some (P.fix q) = some P.any) = false := by simp
      simp only [hne, Bool.false_and, Bool.or_false, Bool.and_eq_true, beq_iff_eq]
      rw [hf0]
      constructor
      · rintro ⟨⟨t, h1, h2⟩, rfl⟩
        exact ⟨_, ⟨t, h1, rfl⟩, (Mp_snoc _ _ _).2 ⟨t, [c], rfl, h2, rfl⟩⟩
      · rintro ⟨t, ⟨s, h1, rfl⟩, h2⟩
        obtain ⟨a, b, h3, h4, rfl⟩ := (Mp_snoc _ _ _).1 h2
        have := List.append_inj' h3 rfl
        exact ⟨⟨s, h1, by rw [this.1]; exact h4⟩, by simpa using this.2⟩
theorem Good.steps {ps : List P} : ∀ (r : List Nat) {f : Nat → Bool} {T : List Nat → Prop}, Good ps f T → Good ps (passAll ps r f) (fun t => ∃ s, T s ∧ t = s ++ r)
  | [], f, T, h => h.mono fun t => by simp
  | c :: r, f, T, h => by
    refine (Good.steps r (h.step c)).mono fun t => ?_
    constructor
    · rintro ⟨s, ⟨u, h1, rfl⟩, rfl⟩; exact ⟨u, h1, by simp⟩
    · rintro ⟨u, h1, rfl⟩; exact ⟨u ++ [c], ⟨u, h1, rfl⟩, by simp⟩
/-- G2. -/
theorem whole_iff (ps : List P) (t : ByteArray) : wholeB ps t = true ↔ Sg.valid t = true ∧ Mp ps (rns (Sg.fold t)) := by
  have h := (Good.steps (rns (Sg.fold t)) (Good.begin (Good.none ps))) ps.length (Nat.le_refl _)
  unfold wholeB
  rw [Bool.and_eq_true, h, List.take_length]
  simp
/-- What 'join' gives means the same. -/
theorem Mp_join (ps : List P) (p : P) (s : List Nat) : Mp (join ps p) s ↔ Mp (ps ++ [p]) s := by
  unfold join
  split
  · rename_i hl
    obtain ⟨qs, rfl⟩ := List.getLast?_eq_some_iff.1 hl
    cases p with
    | fix r => exact Iff.rfl
    | one =>
      simp only [List.dropLast_concat]
      rw [show qs ++ [P.one, P.any] = qs ++ [P.one] ++ [P.any] by simp, Mp_snoc, Mp_snoc]
      constructor
      · rintro ⟨a, b, rfl, h1, _⟩
        obtain ⟨c, d, rfl, h2, x, rfl⟩ := (Mp_snoc _ _ _).1 h1
        rcases List.eq_nil_or_concat b with rfl | ⟨b', y, rfl⟩
        · exact ⟨c, [x], by simp, (Mp_snoc _ _ _).2 ⟨c, [], by simp, h2, trivial⟩, x, rfl⟩
        · exact ⟨c ++ ([x] ++ b'), [y], by simp, (Mp_snoc _ _ _).2 ⟨c, [x] ++ b', rfl, h2, trivial⟩, y, rfl⟩
      · rintro ⟨a, b, rfl, h1, x, rfl⟩
        obtain ⟨c, d, rfl, h2, _⟩ := (Mp_snoc _ _ _).1 h1
        cases d with
        | nil => exact ⟨c ++ [x], [], by simp, (Mp_snoc _ _ _).2 ⟨c, [x], rfl, h2, x, rfl⟩, trivial⟩
        | cons y d => exact ⟨c ++ [y], d ++ [x], by simp, (Mp_snoc _ _ _).2 ⟨c, [y], rfl, h2, y, rfl⟩, trivial⟩
    | any =>
      simp only []
      rw [Mp_snoc, Mp_snoc]
      constructor
      · rintro ⟨a, b, rfl, h1, _⟩
        exact ⟨a ++ b, [], by simp, (Mp_snoc _ _ _).2 ⟨a, b, rfl, h1, trivial⟩, trivial⟩
      · rintro ⟨a, b, rfl, h1, _⟩
        obtain ⟨c, d, rfl, h2, _⟩ := (Mp_snoc _ _ _).1 h1
        exact ⟨c, d ++ b, by simp, h2, trivial⟩
  · exact Iff.rfl
/-- The parts as they are written, one by one. -/
def raw : Bool → List Nat → Option (List P)
  | e, [] => if e then none else some []
  | e, r :: rs =>
    if e && !special r then none
    else if !e && r == 92 then raw true rs
    else if !e && r == 42 then (raw false rs).map (P.any :: ·)
    else if !e && r == 63 then (raw false rs).map (P.one :: ·)
    else (raw false rs).map (P.fix r :: ·)
def norm : List P → List P → List P
  | ps, [] => ps
  | ps, p :: r => norm (join ps p) r
theorem rd_raw : ∀ (rs : List Nat) (e : Bool) (ps : List P), rd ps e rs = match raw e rs with | some l => (norm ps l, true) | none => ((rd ps e rs).1, false)
  | [], e, ps => by cases e <;> rfl
  | r :: rs, e, ps => by
    have ih := rd_raw rs
    rw [rd, raw]
    by_cases h1 : (e && !special r) = true
    · rw [if_pos h1, if_pos h1]
    · rw [if_neg h1, if_neg h1]
      by_cases h2 : (!e && r == 92) = true
      · rw [if_pos h2, if_pos h2]; exact ih true ps
      · rw [if_neg h2, if_neg h2]
        by_cases h3 : (!e && r == 42) = true
        · rw [if_pos h3, if_pos h3]
          have := ih false (join ps .any)
          cases hr : raw false rs with
          | none => rw [hr] at this; exact this
          | some l => rw [hr] at this; exact this
        · rw [if_neg h3, if_neg h3]
          by_cases h4 : (!e && r == 63) = true
          · rw [if_pos h4, if_pos h4]
            have := ih false (join ps .one)
            cases hr : raw false rs with
            | none => rw [hr] at this; exact this
            | some l => rw [hr] at this; exact this
          · rw [if_neg h4, if_neg h4]
            have := ih false (join ps (.fix r))
            cases hr : raw false rs with
            | none => rw [hr] at this; exact this
            | some l => rw [hr] at this; exact this
theorem Mp_norm : ∀ (l ps : List P) (s : List Nat), Mp (norm ps l) s ↔ Mp (ps ++ l) s
  | [], ps, s => by simp [norm]
  | p :: r, ps, s => by
    rw [norm, Mp_norm r, Mp_app, show ps ++ p :: r = (ps ++ [p]) ++ r by simp, Mp_app]
    simp only [Mp_join]
theorem comp_eq (s : ByteArray) : comp s = if s.size ≤ 100 ∧ Sg.valid s = true then (raw false (rns (Sg.fold s))).map (norm []) else none := by
  unfold comp
  by_cases h : 100 < s.size
  · rw [if_pos h, if_neg (by omega)]
  · rw [if_neg h]
    cases hv : Sg.valid s with
    | false => rw [if_pos rfl, if_neg (by simp)]
    | true =>
      have hR : ∀ A : Option (List P), (if s.size ≤ 100 ∧ true = true then A else none) = A := fun A => if_pos ⟨by omega, rfl⟩
      rw [hR, if_neg (by simp)]
      have := rd_raw (rns (Sg.fold s)) false []
      cases hr : raw false (rns (Sg.fold s)) with
      | none => rw [hr] at this; rw [if_neg (by rw [this]; simp)]; rfl
      | some l => rw [hr] at this; rw [if_pos (by rw [this]), this]; rfl
end Go.Gl
