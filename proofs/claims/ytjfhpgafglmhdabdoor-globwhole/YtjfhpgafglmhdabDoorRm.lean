/-
  THE DOCUMENT'S GLOB: how it goes through a text, plainly. Nothing of the program.
-/
import Derived.Test.YtjfhpgafglmhdabDoorGy
import Derived.Test.YtjfhpgafglmhdabDoorRp
namespace Go.Gl
open Go.Sg
/-- In front of a part, or within an ANY. -/
def Mq (l : List P) (k : Nat) (t : List Nat) : Prop := ∃ a b, t = a ++ b ∧ Mp (l.take k) a ∧ (b = [] ∨ l[k]? = some .any)
/-- One sign further. -/
def nx (l : List P) (g : Nat → Bool) (c : Nat) : Nat → Bool
  | 0 => g 0 && decide (l[0]? = some .any)
  | n + 1 => (g (n + 1) && decide (l[n + 1]? = some .any)) || (g n && (decide (l[n]? = some .one) || decide (l[n]? = some (.fix c))))
def Hd (l : List P) (f : Nat → Bool) (T : List Nat → Prop) : Prop := ∀ n, n ≤ l.length → (spF l f n = true ↔ ∃ t, T t ∧ Mq l n t)
theorem Hd.mono {l : List P} {f : Nat → Bool} {T T' : List Nat → Prop} (h : Hd l f T) (hT : ∀ t, T t ↔ T' t) : Hd l f T' := fun n hn => by
  rw [h n hn]; simp only [hT]
theorem spF_none (l : List P) : ∀ n, spF l (fun _ => false) n = false
  | 0 => rfl
  | n + 1 => by rw [spF, spF_none l n]; simp
theorem Hd.none (l : List P) : Hd l (fun _ => false) (fun _ => False) := fun n _ => by rw [spF_none]; simp
theorem Mq_full {l : List P} {t : List Nat} : Mq l l.length t ↔ Mp l t := by
  constructor
  · rintro ⟨a, b, rfl, h, rfl | h⟩
    · rw [List.take_length] at h; simpa using h
    · simp at h
  · intro h; exact ⟨t, [], by simp, by rw [List.take_length]; exact h, .inl rfl⟩
theorem Hd.begin {l : List P} {f : Nat → Bool} {T : List Nat → Prop} (h : Hd l f T) : Hd l (fun n => n == 0 || f n) (fun t => T t ∨ t = []) := by
  intro n
  induction n with
  | zero =>
    intro _
    simp only [spF, beq_self_eq_true, Bool.true_or, true_iff]
    exact ⟨[], .inr rfl, [], [], rfl, rfl, .inl rfl⟩
  | succ n ih =>
    intro hn
    have hi := ih (by omega)
    have hf := h (n + 1) hn
    have hf0 := h n (by omega)
    rw [spF] at hf
    have hlt : n < l.length := by omega
    have hg : l[n]? = some (l[n]'hlt) := List.getElem?_eq_getElem hlt
    rw [spF]
    simp only [Bool.or_eq_true, Bool.and_eq_true, decide_eq_true_eq] at hf ⊢
    constructor
    · rintro ((h0 | h0) | ⟨hp, h0⟩)
      · simp at h0
      · obtain ⟨t, h1, h2⟩ := hf.1 (.inl h0); exact ⟨t, .inl h1, h2⟩
      · obtain ⟨t, h1, a, b, rfl, h3, _⟩ := hi.1 h0
        refine ⟨_, h1, a ++ b, [], by simp, ?_, .inl rfl⟩
        rw [take_snoc l n hlt, Mp_snoc]
        have he : l[n]'hlt = .any := by rw [hg] at hp; exact Option.some.inj hp
        exact ⟨a, b, rfl, h3, by rw [he]; trivial⟩
    · rintro ⟨t, h1 | h1, h2⟩
      · rcases hf.2 ⟨t, h1, h2⟩ with h0 | ⟨hp, h0⟩
        · exact .inl (.inr h0)
        · exact .inr ⟨hp, hi.2 (by obtain ⟨u, q1, q2⟩ := hf0.1 h0; exact ⟨u, .inl q1, q2⟩)⟩
      · subst h1
        obtain ⟨a, b, e, h3, _⟩ := h2
        obtain ⟨rfl, rfl⟩ := app_nil e
        rw [take_snoc l n hlt, Mp_snoc] at h3
        obtain ⟨a, b, e, h4, h5⟩ := h3
        obtain ⟨rfl, rfl⟩ := app_nil e
        refine .inr ⟨?_, hi.2 ⟨[], .inr rfl, [], [], rfl, h4, .inl rfl⟩⟩
        rw [hg]
        cases hp : l[n]'hlt with
        | fix r => rw [hp] at h5; cases h5
        | one => rw [hp] at h5; obtain ⟨c, hc⟩ := h5; cases hc
        | any => rfl
theorem Hd.step {l : List P} {f : Nat → Bool} {T : List Nat → Prop} (h : Hd l f T) (c : Nat) : Hd l (nx l (spF l f) c) (fun t => ∃ s, T s ∧ t = s ++ [c]) := by
  intro n
  induction n with
  | zero =>
    intro hn
    have h0 := h 0 hn
    rw [spF, nx]
    simp only [Bool.and_eq_true, decide_eq_true_eq]
    rw [h0]
    constructor
    · rintro ⟨⟨t, h1, h2⟩, h3⟩
      exact ⟨t ++ [c], ⟨t, h1, rfl⟩, [], t ++ [c], by simp, rfl, .inr h3⟩
    · rintro ⟨t, ⟨s, h1, rfl⟩, a, b, e, h2, h3⟩
      have ha : a = [] := h2
      subst ha
      have hb : b = s ++ [c] := by simpa using e.symm
      have h4 : l[0]? = some .any := by
        rcases h3 with h3 | h3
        · rw [h3] at hb; simp at hb
        · exact h3
      exact ⟨⟨s, h1, [], s, rfl, rfl, .inr h4⟩, h4⟩
  | succ n ih =>
    intro hn
    have hi := ih (by omega)
    have hg1 := h (n + 1) hn
    have hg0 := h n (by omega)
    have hlt : n < l.length := by omega
    have hg : l[n]? = some (l[n]'hlt) := List.getElem?_eq_getElem hlt
    rw [spF, nx]
    simp only [Bool.or_eq_true, Bool.and_eq_true, decide_eq_true_eq]
    rw [hg1, hg0, hi]
    constructor
    · rintro ((⟨⟨t, h1, a, b, rfl, h2, _⟩, h4⟩ | ⟨⟨t, h1, a, b, rfl, h2, h3⟩, h4⟩) | ⟨hp, t, ⟨s, h1, rfl⟩, a, b, e, h2, _⟩)
      · exact ⟨_, ⟨_, h1, rfl⟩, a, b ++ [c], by simp, h2, .inr h4⟩
      · have hb : b = [] := by
          rcases h3 with h3 | h3
          · exact h3
          · rcases h4 with h4 | h4 <;> rw [h4] at h3 <;> cases h3
        subst hb
        refine ⟨_, ⟨_, h1, rfl⟩, a ++ [] ++ [c], [], by simp, ?_, .inl rfl⟩
        rw [take_snoc l n hlt, Mp_snoc]
        refine ⟨a, [c], by simp, h2, ?_⟩
        rcases h4 with h4 | h4
        · rw [hg] at h4; rw [Option.some.inj h4]; exact ⟨c, rfl⟩
        · rw [hg] at h4; rw [Option.some.inj h4]; rfl
      · refine ⟨_, ⟨s, h1, rfl⟩, s ++ [c], [], by simp, ?_, .inl rfl⟩
        rw [take_snoc l n hlt, Mp_snoc]
        have he : l[n]'hlt = .any := by rw [hg] at hp; exact Option.some.inj hp
        exact ⟨a, b, e, h2, by rw [he]; trivial⟩
    · rintro ⟨t, ⟨s, h1, rfl⟩, a, b, e, h2, h3⟩
      rcases snoc_split e with ⟨rfl, rfl⟩ | ⟨b', rfl, rfl⟩
      · rw [take_snoc l n hlt, Mp_snoc] at h2
        obtain ⟨a, b, e2, h4, h5⟩ := h2
        cases hp : l[n]'hlt with
        | any => exact .inr ⟨by rw [hg, hp], s ++ [c], ⟨s, h1, rfl⟩, a, b, e2, h4, .inr (by rw [hg, hp])⟩
        | one =>
          rw [hp] at h5
          obtain ⟨d, rfl⟩ := h5
          have := List.append_inj' e2 rfl
          exact .inl (.inr ⟨⟨s, h1, s, [], by simp, by rw [this.1]; exact h4, .inl rfl⟩, .inl (by rw [hg, hp])⟩)
        | fix r =>
          rw [hp] at h5
          have h5' : b = [r] := h5
          subst h5'
          have := List.append_inj' e2 rfl
          have hcr : c = r := by simpa using this.2
          subst hcr
          exact .inl (.inr ⟨⟨s, h1, s, [], by simp, by rw [this.1]; exact h4, .inl rfl⟩, .inr (by rw [hg, hp])⟩)
      · rcases h3 with h3 | h3
        · simp at h3
        · exact .inl (.inl ⟨⟨_, h1, a, b', rfl, h2, .inr h3⟩, h3⟩)
/-- 'goes'. -/
def goF (l : List P) (F : ByteArray) (fr till : Nat → Bool) : Nat → Nat → (Nat → Bool) → Bool
  | 0, _, _ => false
  | n + 1, pos, f =>
    if (spF l (fun n => (n == 0 && fr pos) || f n) l.length && till pos) = true then true
    else if pos = F.size then false
    else goF l F fr till n (pos + (Utf8.decode F pos).2) (nx l (spF l (fun n => (n == 0 && fr pos) || f n)) (Utf8.decode F pos).1)
def FoundR (l : List P) (t : ByteArray) (fr till : Nat → Bool) (n N : Nat) : Prop := ∃ i m, i ≤ m ∧ n ≤ m ∧ m ≤ N ∧ fr (posn t i) = true ∧ till (posn t m) = true ∧ Mp l (((rns (fold t)).drop i).take (m - i))
def BegunR (t : ByteArray) (fr : Nat → Bool) (n : Nat) (s : List Nat) : Prop := ∃ i, i < n ∧ fr (posn t i) = true ∧ s = ((rns (fold t)).drop i).take (n - i)
theorem goes_found (l : List P) (t : ByteArray) (fr till : Nat → Bool) (N : Nat) (hN : posn t N = t.size) (hlt : ∀ m, m < N → posn t m < t.size) : ∀ k n fuel f, N - n ≤ k → n ≤ N → t.size + 1 ≤ posn t n + fuel → Hd l f (BegunR t fr n) →
    (goF l (fold t) fr till fuel (posn t n) f = true ↔ FoundR l t fr till n N) := by
  intro k
  induction k with
  | zero =>
    intro n fuel f hk hn hfu hG
    obtain rfl : n = N := by omega
    obtain ⟨fu, rfl⟩ : ∃ fu, fuel = fu + 1 := ⟨fuel - 1, by omega⟩
    have here : spF l (fun k => (k == 0 && fr (posn t n)) || f k) l.length = true ↔ ∃ i, i ≤ n ∧ fr (posn t i) = true ∧ Mp l (((rns (fold t)).drop i).take (n - i)) := by
      cases hf : fr (posn t n) with
      | true =>
        simp only [Bool.and_true]
        rw [hG.begin l.length (Nat.le_refl _)]
        simp only [Mq_full]
        constructor
        · rintro ⟨s, ⟨i, h1, h2, rfl⟩ | rfl, hm⟩
          · exact ⟨i, by omega, h2, hm⟩
          · exact ⟨n, Nat.le_refl _, hf, by rw [Nat.sub_self, List.take_zero]; exact hm⟩
        · rintro ⟨i, h1, h2, h3⟩
          by_cases hi : i < n
          · exact ⟨_, .inl ⟨i, hi, h2, rfl⟩, h3⟩
          · obtain rfl : i = n := by omega
            rw [Nat.sub_self, List.take_zero] at h3
            exact ⟨[], .inr rfl, h3⟩
      | false =>
        simp only [Bool.and_false, Bool.false_or]
        rw [hG l.length (Nat.le_refl _)]
        simp only [Mq_full]
        constructor
        · rintro ⟨s, ⟨i, h1, h2, rfl⟩, hm⟩; exact ⟨i, by omega, h2, hm⟩
        · rintro ⟨i, h1, h2, h3⟩
          by_cases hi : i < n
          · exact ⟨_, ⟨i, hi, h2, rfl⟩, h3⟩
          · obtain rfl : i = n := by omega
            rw [hf] at h2; cases h2
    rw [goF]
    by_cases hc : (spF l (fun k => (k == 0 && fr (posn t n)) || f k) l.length && till (posn t n)) = true
    · rw [if_pos hc]
      rw [Bool.and_eq_true] at hc
      obtain ⟨i, h1, h2, h3⟩ := here.1 hc.1
      exact ⟨fun _ => ⟨i, n, h1, Nat.le_refl _, Nat.le_refl _, h2, hc.2, h3⟩, fun _ => rfl⟩
    · rw [if_neg hc, if_pos (by rw [fold_size, hN])]
      refine ⟨fun h => (by cases h), ?_⟩
      rintro ⟨i, m, h1, h2, h3, h4, h5, h6⟩
      obtain rfl : m = n := by omega
      exact absurd (by rw [here.2 ⟨i, h1, h4, h6⟩, h5]; rfl) hc
  | succ k ih =>
    intro n fuel f hk hn hfu hG
    by_cases hnN : n = N
    · subst hnN
      exact ih n fuel f (by omega) hn hfu hG
    · have hp := hlt n (by omega)
      have hpf : posn (fold t) n = posn t n := posn_fold t n
      obtain ⟨fu, rfl⟩ : ∃ fu, fuel = fu + 1 := ⟨fuel - 1, by omega⟩
      have hw := wd_pos t (posn t n)
      have hs := posn_step t n hp
      have hwf : (Utf8.decode (fold t) (posn t n)).2 = wd t (posn t n) := wd_fold t n hp
      have hdr := rns_at (fold t) n (by rw [hpf, fold_size]; exact hp)
      rw [hpf] at hdr
      have hH : Hd l (fun k => (k == 0 && fr (posn t n)) || f k) (fun s => BegunR t fr n s ∨ (fr (posn t n) = true ∧ s = [])) := by
        cases hf : fr (posn t n) with
        | true => simp only [Bool.and_true]; exact hG.begin.mono fun s => by simp
        | false => simp only [Bool.and_false, Bool.false_or]; exact hG.mono fun s => by simp
      have here : spF l (fun k => (k == 0 && fr (posn t n)) || f k) l.length = true ↔ ∃ i, i ≤ n ∧ fr (posn t i) = true ∧ Mp l (((rns (fold t)).drop i).take (n - i)) := by
        rw [hH l.length (Nat.le_refl _)]
        simp only [Mq_full]
        constructor
        · rintro ⟨s, ⟨i, h1, h2, rfl⟩ | ⟨hf, rfl⟩, hm⟩
          · exact ⟨i, by omega, h2, hm⟩
          · exact ⟨n, Nat.le_refl _, hf, by rw [Nat.sub_self, List.take_zero]; exact hm⟩
        · rintro ⟨i, h1, h2, h3⟩
          by_cases hi : i < n
          · exact ⟨_, .inl ⟨i, hi, h2, rfl⟩, h3⟩
          · obtain rfl : i = n := by omega
            rw [Nat.sub_self, List.take_zero] at h3
            exact ⟨[], .inr ⟨h2, rfl⟩, h3⟩
      have hst : Hd l (nx l (spF l (fun k => (k == 0 && fr (posn t n)) || f k)) (Utf8.decode (fold t) (posn t n)).1) (BegunR t fr (n + 1)) := (hH.step _).mono fun s => by
        constructor
        · rintro ⟨u, ⟨i, h1, h2, rfl⟩ | ⟨hf, rfl⟩, rfl⟩
          · exact ⟨i, by omega, h2, (cut_snoc (by omega) hdr).symm⟩
          · refine ⟨n, by omega, hf, ?_⟩
            rw [cut_snoc (Nat.le_refl n) hdr, Nat.sub_self, List.take_zero]
        · rintro ⟨i, h1, h2, rfl⟩
          by_cases hi : i < n
          · exact ⟨_, .inl ⟨i, hi, h2, rfl⟩, cut_snoc (by omega) hdr⟩
          · obtain rfl : i = n := by omega
            exact ⟨[], .inr ⟨h2, rfl⟩, by rw [cut_snoc (Nat.le_refl i) hdr, Nat.sub_self, List.take_zero]⟩
      rw [goF, hwf, ← hs]
      by_cases hc : (spF l (fun k => (k == 0 && fr (posn t n)) || f k) l.length && till (posn t n)) = true
      · rw [if_pos hc]
        rw [Bool.and_eq_true] at hc
        obtain ⟨i, h1, h2, h3⟩ := here.1 hc.1
        exact ⟨fun _ => ⟨i, n, h1, Nat.le_refl _, hn, h2, hc.2, h3⟩, fun _ => rfl⟩
      · rw [if_neg hc, if_neg (by rw [fold_size]; omega), ih (n + 1) fu _ (by omega) (by omega) (by omega) hst]
        constructor
        · rintro ⟨i, m, h1, h2, h3, h4, h5, h6⟩
          exact ⟨i, m, h1, by omega, h3, h4, h5, h6⟩
        · rintro ⟨i, m, h1, h2, h3, h4, h5, h6⟩
          refine ⟨i, m, h1, ?_, h3, h4, h5, h6⟩
          rcases Nat.lt_or_ge n m with h | h
          · exact h
          · obtain rfl : m = n := by omega
            exact absurd (by rw [here.2 ⟨i, h1, h4, h6⟩, h5]; rfl) hc
/-- The document's 'Whole', 'Within' are the program's. -/
theorem goes_within (l : List P) (t : ByteArray) (hv : valid t = true) (E : Nat → Bool) (hE : ∀ i, i ≤ t.size → E i = edgeN t i) : goF l (fold t) E E ((fold t).size + 1) 0 (fun _ => false) = Gl.withinB (norm [] l) t := by
  obtain ⟨N, hN, hlt⟩ := last_place t
  have h0 := wi_found (norm [] l) t N hN hlt N 0 (fold t).size (fun _ => false) (by omega) (by omega) (by rw [fold_size]; omega) ((Good.none _).mono fun s => ⟨False.elim, fun ⟨i, h, _⟩ => by omega⟩)
  have h1 := goes_found l t E E N hN hlt N 0 ((fold t).size + 1) (fun _ => false) (by omega) (by omega) (by rw [fold_size]; show t.size + 1 ≤ 0 + _; omega) ((Hd.none l).mono fun s => ⟨False.elim, fun ⟨i, h, _⟩ => by omega⟩)
  have e : goF l (fold t) E E ((fold t).size + 1) 0 (fun _ => false) = true ↔ Gl.withinB (norm [] l) t = true := by
    unfold Gl.withinB
    rw [hv, Bool.true_and]
    refine h1.trans (Iff.trans ?_ h0.symm)
    unfold FoundR Found
    constructor
    · rintro ⟨i, m, a1, a2, a3, a4, a5, a6⟩
      exact ⟨i, m, a1, a2, a3, by rw [← hE _ (posn_le t i)]; exact a4, by rw [← hE _ (posn_le t m)]; exact a5, (Mp_norm l [] _).2 a6⟩
    · rintro ⟨i, m, a1, a2, a3, a4, a5, a6⟩
      exact ⟨i, m, a1, a2, a3, by rw [hE _ (posn_le t i)]; exact a4, by rw [hE _ (posn_le t m)]; exact a5, (Mp_norm l [] _).1 a6⟩
  exact Bool.eq_iff_iff.2 e
theorem goes_whole (l : List P) (t : ByteArray) (hv : valid t = true) : goF l (fold t) (fun i => i == 0) (fun i => i == t.size) ((fold t).size + 1) 0 (fun _ => false) = wholeB (norm [] l) t := by
  obtain ⟨N, hN, hlt⟩ := last_place t
  have h1 := goes_found l t (fun i => i == 0) (fun i => i == t.size) N hN hlt N 0 ((fold t).size + 1) (fun _ => false) (by omega) (by omega) (by rw [fold_size]; show t.size + 1 ≤ 0 + _; omega) ((Hd.none l).mono fun s => ⟨False.elim, fun ⟨i, h, _⟩ => by omega⟩)
  have hlen : (rns (fold t)).length ≤ N := by
    have := rns_over (fold t) N (by rw [posn_fold, fold_size]; omega)
    exact this
  have e : goF l (fold t) (fun i => i == 0) (fun i => i == t.size) ((fold t).size + 1) 0 (fun _ => false) = true ↔ wholeB (norm [] l) t = true := by
    refine h1.trans ?_
    rw [whole_iff, Mp_norm, List.nil_append]
    unfold FoundR
    constructor
    · rintro ⟨i, m, a1, a2, a3, a4, a5, a6⟩
      have p0 : posn t i = 0 := by simpa using a4
      have p1 : posn t m = t.size := by simpa using a5
      refine ⟨hv, ?_⟩
      by_cases hz : t.size = 0
      · have hr : rns (fold t) = [] := by
          rw [rns_eq, rl_end _ _ (by rw [fold_size]; omega)]
        rw [hr] at a6 ⊢
        simpa using a6
      · have hi : i = 0 := by
          rcases Nat.eq_zero_or_pos i with h | h
          · exact h
          · have := posn_inj t 0 i (by show 0 < t.size; omega) h
            have e0 : posn t 0 = 0 := rfl
            omega
        have hm : m = N := by
          rcases Nat.lt_or_ge m N with h | h
          · have := hlt m h; omega
          · omega
        subst hi hm
        rw [List.drop_zero, Nat.sub_zero, List.take_of_length_le hlen] at a6
        exact a6
    · rintro ⟨_, h6⟩
      exact ⟨0, N, by omega, by omega, Nat.le_refl _, rfl, by simpa using hN, by rw [List.drop_zero, Nat.sub_zero, List.take_of_length_le hlen]; exact h6⟩
  exact Bool.eq_iff_iff.2 e
/-- The sign at a place of a text in small letters. -/
theorem small_piece {t : ByteArray} (hv : valid t = true) (n : Nat) (hp : posn t n < t.size) : (fold t).extract (posn t n) (posn t n + wd t (posn t n)) = T (Lib.encodeRune ((Utf8.decode (fold t) (posn t n)).1 : Int)) ∧ Ok (Utf8.decode (fold t) (posn t n)).1 := by
  have hvf : valid (fold t) = true := by rw [valid_fold]; exact hv
  have hpf := posn_fold t n
  have hp' : posn (fold t) n < (fold t).size := by rw [hpf, fold_size]; exact hp
  have hw := valid_no_wrong t hv n hp
  have hf := (fold_right t n hp hw).1
  have hin : posn t n + wd t (posn t n) ≤ t.size := by have := posn_le t (n + 1); rw [posn_step t n hp] at this; exact this
  have hok : Ok (Utf8.decode (fold t) (posn t n)).1 := by
    refine rns_ok hv _ ?_
    have := rns_at (fold t) n hp'
    rw [hpf] at this
    have hm : (Utf8.decode (fold t) (posn t n)).1 ∈ (rns (fold t)).drop n := by rw [this]; simp
    exact List.mem_of_mem_drop hm
  refine ⟨?_, hok⟩
  have hsm : 0 ≤ small ((Utf8.decode t (posn t n)).1 : Int) := (small_bd _ (by omega) (by have := Lib.rune_le t (posn t n); omega)).1
  have hpc : piece t (posn t n) = Lib.encodeRune ((Utf8.decode (fold t) (posn t n)).1 : Int) := by
    unfold piece
    rw [hw, hf]
    simp only [Int.toNat_of_nonneg hsm]
    rfl
  rw [← hpc]
  have hpl := piece_length t (posn t n)
  apply ba_ext
  have hL : ((fold t).extract (posn t n) (posn t n + wd t (posn t n))).size = wd t (posn t n) := by rw [ByteArray.size_extract, fold_size]; omega
  apply List.ext_getElem
  · rw [← Lib.size_eq, hL]; exact hpl.symm
  · intro j h1 h2
    have hj : j < wd t (posn t n) := by rw [← Lib.size_eq, hL] at h1; exact h1
    have g1 := part_get (fold t) (posn t n) (posn t n + wd t (posn t n)) j (by rw [fold_size]; exact hin) (by omega)
    rw [fold_get t n j hp hj, getb (by omega)] at g1
    have g2 : (piece t (posn t n)).getD j 0 = (piece t (posn t n))[j]'(by omega) := by rw [List.getD, List.getElem?_eq_getElem (by omega)]; rfl
    rw [g2] at g1
    simpa [T] using g1
theorem sign_eq {r c : Nat} (hr : Ok r) (hc : Ok c) : ((T (Lib.encodeRune (r : Int))).toList == (T (Lib.encodeRune (c : Int))).toList) = decide (r = c) := by
  rw [Bool.eq_iff_iff, beq_iff_eq, decide_eq_true_eq, Lib.toList_data, Lib.toList_data]
  constructor
  · intro h
    have e := ba_ext _ _ h
    have h1 := (enc_one hr.1).2
    rw [e, (enc_one hc.1).2] at h1
    simpa using h1.symm
  · intro h; rw [h]
end Go.Gl
