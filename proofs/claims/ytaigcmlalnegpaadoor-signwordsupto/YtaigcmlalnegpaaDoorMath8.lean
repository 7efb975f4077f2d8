/-
  THE WORDS OF A TEXT: where they begin and end, that they rise, what stands in them. Plain functions, nothing of the program.
-/
import Derived.Test.YtaigcmlalnegpaaDoorMath7
import Derived.Test.YtaigcmlalnegpaaDoorWordsP
namespace Go.Sg
/-- A word: from one sign's place to another one's. -/
def WordAt (s : ByteArray) (a b : Nat) : Prop := ∃ n m, n < m ∧ posn s n = a ∧ posn s m = b ∧ (∀ k, n ≤ k → k < m → posn s k < s.size ∧ isW s (posn s k) = true) ∧ (∀ n', n = n' + 1 → isW s (posn s n') = false) ∧ (b = s.size ∨ (b < s.size ∧ isW s b = false))
/-- What is known at the i-th sign: no word has begun, or one at the n-th. -/
def WInv (s : ByteArray) (i : Nat) : Option Nat → Prop
  | none => ∀ i', i = i' + 1 → isW s (posn s i') = false
  | some a => ∃ n, n < i ∧ posn s n = a ∧ (∀ k, n ≤ k → k < i → posn s k < s.size ∧ isW s (posn s k) = true) ∧ (∀ n', n = n' + 1 → isW s (posn s n') = false)
theorem winv_t (s : ByteArray) (i : Nat) (fr : Option Nat) (h : posn s i < s.size) (hw : isW s (posn s i) = true) (hI : WInv s i fr) : WInv s (i + 1) (some (fr.getD (posn s i))) := by
  cases fr with
  | none =>
    refine ⟨i, by omega, rfl, fun k k1 k2 => ?_, hI⟩
    obtain rfl : k = i := by omega
    exact ⟨h, hw⟩
  | some a =>
    obtain ⟨n, h1, h2, h3, h4⟩ := hI
    refine ⟨n, by omega, h2, fun k k1 k2 => ?_, h4⟩
    by_cases e : k = i
    · subst e; exact ⟨h, hw⟩
    · exact h3 k k1 (by omega)
theorem winv_f (s : ByteArray) (i : Nat) (hw : isW s (posn s i) = false) : WInv s (i + 1) none := fun i' e => by
  obtain rfl : i' = i := by omega
  exact hw
theorem words_mem (s : ByteArray) : ∀ f i fr, WInv s i fr → ∀ x, x ∈ wordsGo s f (posn s i) fr → WordAt s x.1 x.2
  | 0, _, _, _, x, hx => by cases hx
  | f + 1, i, fr, hI, x, hx => by
    by_cases h : posn s i < s.size
    · have hs := posn_step s i h
      unfold wd at hs
      cases hw : isW s (posn s i) with
      | true =>
        rw [wordsGo_t s f _ fr h hw, ← hs] at hx
        exact words_mem s f (i + 1) _ (winv_t s i fr h hw hI) x hx
      | false =>
        rw [wordsGo_f s f _ fr h hw, ← hs] at hx
        rcases List.mem_append.1 hx with hx | hx
        · cases fr with
          | none => cases hx
          | some a =>
            simp only [Option.toList_some, List.map_cons, List.map_nil, List.mem_singleton] at hx
            subst hx
            obtain ⟨n, h1, h2, h3, h4⟩ := hI
            exact ⟨n, i, h1, h2, rfl, h3, h4, .inr ⟨h, hw⟩⟩
        · exact words_mem s f (i + 1) none (winv_f s i hw) x hx
    · rw [wordsGo_e s f _ fr h] at hx
      cases fr with
      | none => cases hx
      | some a =>
        simp only [Option.toList_some, List.map_cons, List.map_nil, List.mem_singleton] at hx
        subst hx
        obtain ⟨n, h1, h2, h3, h4⟩ := hI
        have := posn_le s i
        exact ⟨n, i, h1, h2, by show posn s i = s.size; omega, h3, h4, .inl rfl⟩
theorem word_at (s : ByteArray) (x : Nat × Nat) (h : x ∈ words s) : WordAt s x.1 x.2 :=
  words_mem s _ 0 none (fun i' e => by omega) x h
theorem word_bounds (s : ByteArray) (a b : Nat) (h : WordAt s a b) : a < b ∧ b ≤ s.size := by
  obtain ⟨n, m, h1, rfl, rfl, h4, _, _⟩ := h
  exact ⟨posn_inj s n m (h4 n (Nat.le_refl _) h1).1 h1, posn_le s m⟩
theorem posn_back (s : ByteArray) (n m : Nat) (h : posn s n < posn s m) : n < m := by
  by_cases c : n < m
  · exact c
  · have := posn_mono s m n (by omega)
    omega
theorem edge_in_word (s : ByteArray) (a b at' : Nat) (h : WordAt s a b) (h1 : a ≤ at') (h2 : at' < b) : edgeN s at' = decide (at' = a) := by
  have hb := word_bounds s a b h
  obtain ⟨n, m, g1, rfl, rfl, g4, g5, g6⟩ := h
  by_cases hk : ∃ k, posn s k = at'
  · obtain ⟨k, rfl⟩ := hk
    have hkm := posn_back s k m h2
    have hkn : n ≤ k := by
      by_cases c : n ≤ k
      · exact c
      · have := posn_inj s k n (by omega) (by omega)
        omega
    obtain ⟨q1, q2⟩ := g4 k hkn hkm
    rw [edge_begin s k q1]
    unfold mkE
    by_cases e : k = n
    · subst e
      rw [decide_eq_true (rfl : posn s k = posn s k)]
      cases k with
      | zero =>
        have e0 : decide (posn s 0 = 0) = true := decide_eq_true rfl
        rw [e0]; rfl
      | succ k' =>
        show (_ || !isW s (posn s k') || _) = true
        rw [g5 k' rfl]; simp
    · have hlt := posn_inj s n k (g4 n (Nat.le_refl _) g1).1 (by omega)
      obtain ⟨k', rfl⟩ : ∃ k', k = k' + 1 := ⟨k - 1, by omega⟩
      rw [decide_eq_false (by omega : ¬ posn s (k' + 1) = posn s n), decide_eq_false (by omega : ¬ posn s (k' + 1) = 0), q2]
      show (_ || !isW s (posn s k') || _) = false
      rw [(g4 k' (by omega) (by omega)).2]
      rfl
  · obtain ⟨N, p1, p2⟩ := last_place s
    have e1 : ¬ at' = posn s n := fun e => hk ⟨n, e.symm⟩
    rw [edge_eq s N at' p1 p2 (by omega), if_neg (by omega), mk_none s at' (fun k e => hk ⟨k, e⟩), decide_eq_false e1]
theorem edge_behind_word (s : ByteArray) (a b : Nat) (h : WordAt s a b) : edgeN s b = true := by
  obtain ⟨n, m, g1, rfl, rfl, g4, g5, g6⟩ := h
  rcases g6 with e | ⟨e, e2⟩
  · rw [e]; exact edge_end s
  · rw [edge_begin s m e]
    unfold mkE
    rw [e2]
    simp
/-- Words rise, and touch nowhere. -/
def Rise : Int → List (Nat × Nat) → Prop
  | _, [] => True
  | last, x :: r => last < x.1 ∧ Rise x.2 r
def lastOf (last : Int) : List (Nat × Nat) → Int
  | [] => last
  | x :: r => lastOf x.2 r
theorem lastOf_snoc (x : Nat × Nat) : ∀ (l : List (Nat × Nat)) (last : Int), lastOf last (l ++ [x]) = x.2
  | [], _ => rfl
  | y :: r, _ => lastOf_snoc x r y.2
theorem rise_at (x : Nat × Nat) (r : List (Nat × Nat)) : ∀ (l : List (Nat × Nat)) (last : Int), Rise last (l ++ x :: r) → lastOf last l < x.1
  | [], _, h => h.1
  | y :: l, _, h => rise_at x r l y.2 h.2
theorem rise_go (s : ByteArray) : ∀ (f i : Nat) (fr : Option Nat) (last : Int), (fr = none → last < posn s i) → (∀ a, fr = some a → last < a ∧ a < posn s i) → Rise last (wordsGo s f (posn s i) fr)
  | 0, _, _, _, _, _ => True.intro
  | f + 1, i, fr, last, h1, h2 => by
    by_cases h : posn s i < s.size
    · have hs := posn_step s i h
      have hw := wd_pos s (posn s i)
      unfold wd at hs hw
      cases hi : isW s (posn s i) with
      | true =>
        rw [wordsGo_t s f _ fr h hi, ← hs]
        refine rise_go s f (i + 1) _ last (fun e => by cases e) (fun a e => ?_)
        cases fr with
        | none =>
          cases e
          have := h1 rfl
          exact ⟨this, by show posn s i < posn s (i + 1); omega⟩
        | some b =>
          cases e
          have := h2 b rfl
          exact ⟨this.1, by show b < posn s (i + 1); omega⟩
      | false =>
        rw [wordsGo_f s f _ fr h hi, ← hs]
        cases fr with
        | none =>
          have := h1 rfl
          exact rise_go s f (i + 1) none last (fun _ => by omega) (fun a e => by cases e)
        | some b =>
          have := h2 b rfl
          exact ⟨this.1, rise_go s f (i + 1) none _ (fun _ => by show ((posn s i : Nat) : Int) < _; omega) (fun a e => by cases e)⟩
    · rw [wordsGo_e s f _ fr h]
      cases fr with
      | none => exact True.intro
      | some b => exact ⟨(h2 b rfl).1, True.intro⟩
theorem words_rise (s : ByteArray) : Rise (-1) (words s) := rise_go s _ 0 none (-1) (fun _ => by show (-1 : Int) < ((0 : Nat) : Int); omega) (fun a e => by cases e)
theorem some_cover (s : ByteArray) : ∀ f i a, s.size + 1 ≤ posn s i + f → ∃ x, x ∈ wordsGo s f (posn s i) (some a) ∧ x.1 = a ∧ posn s i ≤ x.2
  | 0, i, a, hf => by have := posn_le s i; omega
  | f + 1, i, a, hf => by
    by_cases h : posn s i < s.size
    · have hs := posn_step s i h
      have hw := wd_pos s (posn s i)
      unfold wd at hs hw
      cases hi : isW s (posn s i) with
      | true =>
        obtain ⟨x, x1, x2, x3⟩ := some_cover s f (i + 1) a (by omega)
        rw [wordsGo_t s f _ _ h hi, ← hs]
        exact ⟨x, x1, x2, by omega⟩
      | false =>
        rw [wordsGo_f s f _ _ h hi]
        exact ⟨(a, posn s i), List.mem_append.2 (.inl (List.mem_singleton.2 rfl)), rfl, Nat.le_refl _⟩
    · rw [wordsGo_e s f _ _ h]
      exact ⟨(a, s.size), List.mem_singleton.2 rfl, rfl, posn_le s i⟩
theorem cover_go (s : ByteArray) (k : Nat) (hk : posn s k < s.size) (hkw : isW s (posn s k) = true) : ∀ f i fr, i ≤ k → s.size + 1 ≤ posn s i + f → (∀ a, fr = some a → a ≤ posn s i) → ∃ x, x ∈ wordsGo s f (posn s i) fr ∧ x.1 ≤ posn s k ∧ posn s k < x.2
  | 0, i, _, _, hf, _ => by have := posn_le s i; omega
  | f + 1, i, fr, hik, hf, hfr => by
    have hm := posn_mono s i k hik
    have h : posn s i < s.size := by omega
    have hs := posn_step s i h
    have hw := wd_pos s (posn s i)
    unfold wd at hs hw
    by_cases e : i = k
    · subst e
      rw [wordsGo_t s f _ _ h hkw, ← hs]
      obtain ⟨x, x1, x2, x3⟩ := some_cover s f (i + 1) (fr.getD (posn s i)) (by omega)
      refine ⟨x, x1, ?_, by omega⟩
      rw [x2]
      cases fr with
      | none => exact Nat.le_refl _
      | some a => exact hfr a rfl
    · cases hi : isW s (posn s i) with
      | true =>
        rw [wordsGo_t s f _ _ h hi, ← hs]
        refine cover_go s k hk hkw f (i + 1) _ (by omega) (by omega) (fun a ea => ?_)
        cases fr with
        | none => cases ea; show posn s i ≤ _; omega
        | some b =>
          cases ea
          have := hfr b rfl
          show b ≤ _
          omega
      | false =>
        rw [wordsGo_f s f _ _ h hi, ← hs]
        obtain ⟨x, x1, x2⟩ := cover_go s k hk hkw f (i + 1) none (by omega) (by omega) (fun a ea => by cases ea)
        exact ⟨x, List.mem_append.2 (.inr x1), x2⟩
/-- Does a place stand in one of these words? -/
def inAny (l : List (Nat × Nat)) (at' : Nat) : Bool := l.any fun x => decide (x.1 ≤ at' ∧ at' < x.2)
/-- A byte below 128 stands in a word just if it is a word's sign. -/
theorem in_word (s : ByteArray) (at' : Nat) (h : at' < s.size) (hb : bt s at' 0 < 128) : inAny (words s) at' = wordB (bt s at' 0 : Int) := by
  obtain ⟨k, rfl⟩ := lead_begins s at' (by omega) (by omega)
  have hd := sign_low s _ hb
  have hw : isW s (posn s k) = wordB (bt s (posn s k) 0 : Int) := by unfold isW; rw [hd]
  rw [← hw]
  apply Bool.eq_iff_iff.2
  unfold inAny
  rw [List.any_eq_true]
  constructor
  · rintro ⟨x, hx, hc⟩
    have hc := of_decide_eq_true hc
    obtain ⟨n, m, g1, g2, g3, g4, _, _⟩ := word_at s x hx
    have hkm := posn_back s k m (by omega)
    have hkn : n ≤ k := by
      by_cases c : n ≤ k
      · exact c
      · have := posn_inj s k n h (by omega)
        omega
    exact (g4 k hkn hkm).2
  · intro hkw
    obtain ⟨x, x1, x2, x3⟩ := cover_go s k h hkw (s.size + 1) 0 none (by omega) (by show s.size + 1 ≤ 0 + (s.size + 1); omega) (fun a e => by cases e)
    exact ⟨x, x1, decide_eq_true ⟨x2, x3⟩⟩
end Go.Sg
