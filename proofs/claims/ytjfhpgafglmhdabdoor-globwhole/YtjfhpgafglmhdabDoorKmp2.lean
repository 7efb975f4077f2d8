/-
  WHAT THE SEARCH FINDS: the fronts of a part with which a row of bytes ends. Plain functions, nothing of the program.
-/
import Derived.Test.YtjfhpgafglmhdabDoorKmp
namespace Go.Sg
/-- The first j bytes of p stand at the end of u. -/
def Ends (p u : List UInt8) (j : Nat) : Prop := j ≤ p.length ∧ p.take j <:+ u
/-- .. and no more of them do. -/
def Most (p u : List UInt8) (h : Nat) : Prop := Ends p u h ∧ ∀ j, Ends p u j → j ≤ h
theorem ends_zero (p u : List UInt8) : Ends p u 0 := ⟨Nat.zero_le _, by simp⟩
theorem take_more (p : List UInt8) (j : Nat) (h : j < p.length) : p.take (j + 1) = p.take j ++ [p.getD j 0] := by
  rw [List.take_succ_eq_append_getElem h]
  simp [List.getD, h]
theorem snoc_suffix (l u : List UInt8) (a c : UInt8) : l ++ [a] <:+ u ++ [c] ↔ a = c ∧ l <:+ u := by
  constructor
  · rintro ⟨t, ht⟩
    rw [← List.append_assoc] at ht
    have := List.append_inj' ht rfl
    exact ⟨by simpa using this.2, t, this.1⟩
  · rintro ⟨rfl, t, rfl⟩
    exact ⟨t, by simp⟩
theorem ends_snoc (p u : List UInt8) (c : UInt8) (j : Nat) : Ends p (u ++ [c]) (j + 1) ↔ j < p.length ∧ p.getD j 0 = c ∧ Ends p u j := by
  constructor
  · rintro ⟨h1, h2⟩
    rw [take_more p j (by omega), snoc_suffix] at h2
    exact ⟨by omega, h2.1, by omega, h2.2⟩
  · rintro ⟨h1, h2, h3⟩
    refine ⟨by omega, ?_⟩
    rw [take_more p j h1, snoc_suffix]
    exact ⟨h2, h3.2⟩
/-- A shorter front with which a row ends, a front of which ends it, too. -/
theorem ends_within (p u : List UInt8) (j h : Nat) (hj : Ends p u j) (hh : Ends p u h) (hlt : j < h) : Ends p ((p.take h).drop 1) j := by
  refine ⟨hj.1, ?_⟩
  have hs : p.take j <:+ p.take h := List.suffix_of_suffix_length_le hj.2 hh.2 (by rw [List.length_take, List.length_take]; omega)
  have hl : (p.take j).length < (p.take h).length := by rw [List.length_take, List.length_take]; have := hh.1; omega
  generalize p.take j = a at *
  generalize p.take h = b at *
  cases b with
  | nil => simp at hl
  | cons x b =>
    rcases List.suffix_cons_iff.1 hs with e | e
    · rw [e] at hl; omega
    · exact e
theorem ends_of_within (p u : List UInt8) (j h : Nat) (hj : Ends p ((p.take h).drop 1) j) (hh : Ends p u h) : Ends p u j :=
  ⟨hj.1, (hj.2.trans (List.drop_suffix _ _)).trans hh.2⟩
/-- One byte more. -/
theorem ext_most (p : List UInt8) (tab : Nat → Nat) (c : UInt8) (hp : 0 < p.length) (u : List UInt8) :
    ∀ h, (∀ i, i < h → tab i ≤ i) → (∀ i, i < h → Most p ((p.take (i + 1)).drop 1) (tab i)) → Ends p u h → (∀ j, Ends p u j → j < p.length → p.getD j 0 = c → j ≤ h) → Most p (u ++ [c]) (ext p tab c h) := by
  intro h
  induction h using Nat.strongRecOn with
  | _ h ih =>
    intro ht hm hh hc
    rw [ext_step p tab c h ht]
    by_cases hq : 0 < h ∧ (h = p.length ∨ p.getD h 0 ≠ c)
    · rw [if_pos hq]
      have h1 := ht (h - 1) (by omega)
      have hb := hm (h - 1) (by omega)
      rw [show h - 1 + 1 = h from by omega] at hb
      refine ih (tab (h - 1)) (by omega) (fun i hi => ht i (by omega)) (fun i hi => hm i (by omega)) (ends_of_within p u _ h hb.1 hh) (fun j hj hjl hjc => ?_)
      have hle := hc j hj hjl hjc
      have hne : j ≠ h := by
        intro e
        subst e
        rcases hq.2 with e | e
        · omega
        · exact e hjc
      exact hb.2 j (ends_within p u j h hj hh (by omega))
    · rw [if_neg hq]
      by_cases hpc : p.getD h 0 = c
      · rw [if_pos hpc]
        have hl : h < p.length := by
          have := hh.1
          by_cases e : h = p.length
          · by_cases h0 : 0 < h
            · exact absurd ⟨h0, .inl e⟩ hq
            · omega
          · omega
        refine ⟨(ends_snoc p u c h).2 ⟨hl, hpc, hh⟩, fun j hj => ?_⟩
        cases j with
        | zero => omega
        | succ j =>
          obtain ⟨a, b, d⟩ := (ends_snoc p u c j).1 hj
          have := hc j d a b
          omega
      · rw [if_neg hpc]
        have h0 : h = 0 := by
          by_cases e : h = 0
          · exact e
          · exact absurd ⟨by omega, .inr hpc⟩ hq
        subst h0
        refine ⟨ends_zero _ _, fun j hj => ?_⟩
        cases j with
        | zero => omega
        | succ j =>
          obtain ⟨a, b, d⟩ := (ends_snoc p u c j).1 hj
          have := hc j d a b
          obtain rfl : j = 0 := by omega
          exact absurd b hpc
/-- The table of borders. -/
theorem sh_most (p : List UInt8) (hp : 0 < p.length) : ∀ i, i < p.length → Most p ((p.take (i + 1)).drop 1) (sh p i) := by
  intro i
  induction i using Nat.strongRecOn with
  | _ i ih =>
    intro hi
    match i, ih, hi with
    | 0, _, hi =>
      refine ⟨ends_zero _ _, fun j hj => ?_⟩
      have hl := hj.2.length_le
      rw [List.length_take, List.length_drop, List.length_take] at hl
      have := hj.1
      show j ≤ 0
      omega
    | n + 1, ih, hi =>
      have e : (p.take (n + 1 + 1)).drop 1 = (p.take (n + 1)).drop 1 ++ [p.getD (n + 1) 0] := by
        rw [take_more p (n + 1) hi, List.drop_append_of_le_length (by rw [List.length_take]; omega)]
      have hn := ih n (by omega) (by omega)
      rw [e, sh_succ]
      exact ext_most p (sh p) (p.getD (n + 1) 0) hp _ (sh p n) (fun k _ => sh_le p k) (fun k hk => ih k (by have := sh_le p n; omega) (by have := sh_le p n; omega)) hn.1 (fun j hj _ _ => hn.2 j hj)
/-- What the search has at hand behind k bytes. -/
theorem have_most (p t : List UInt8) (hp : 0 < p.length) : ∀ k, k ≤ t.length → Most p (t.take k) (haveAt p t k)
  | 0, _ => by
    refine ⟨ends_zero _ _, fun j hj => ?_⟩
    have hl := hj.2.length_le
    rw [List.length_take, List.length_take] at hl
    have := hj.1
    show j ≤ 0
    omega
  | k + 1, hk => by
    have hn := have_most p t hp k (by omega)
    have hl := haveAt_le p t hp k
    rw [take_more t k (by omega)]
    exact ext_most p (sh p) (t.getD k 0) hp _ (haveAt p t k) (fun i _ => sh_le p i) (fun i hi => sh_most p hp i (by omega)) hn.1 (fun j hj _ _ => hn.2 j hj)
/-- The part stands in full there just where its bytes do. -/
theorem have_full (p t : List UInt8) (hp : 0 < p.length) (k : Nat) (hk : k ≤ t.length) : haveAt p t k = p.length ↔ (p.length ≤ k ∧ (t.drop (k - p.length)).take p.length = p) := by
  have hm := have_most p t hp k hk
  have hle := haveAt_le p t hp k
  constructor
  · intro h
    have he := hm.1
    rw [h] at he
    refine ⟨by omega, ?_⟩
    obtain ⟨_, x, hx⟩ := he
    rw [List.take_length] at hx
    have hxl : x.length = k - p.length := by
      have := congrArg List.length hx
      rw [List.length_append, List.length_take] at this
      omega
    have : (t.take k).drop (k - p.length) = p := by
      rw [← hx, ← hxl, List.drop_left]
    rw [List.drop_take] at this
    rw [show k - (k - p.length) = p.length from by omega] at this
    exact this
  · rintro ⟨h1, h2⟩
    have : Ends p (t.take k) p.length := by
      refine ⟨Nat.le_refl _, ?_⟩
      rw [List.take_length]
      refine ⟨t.take (k - p.length), ?_⟩
      have : (t.take k).drop (k - p.length) = p := by
        rw [List.drop_take, show k - (k - p.length) = p.length from by omega]
        exact h2
      have e := List.take_append_drop (k - p.length) (t.take k)
      rw [this, List.take_take, Nat.min_eq_left (by omega)] at e
      exact e
    have := hm.2 _ this
    omega
theorem hasGo_iff (text : ByteArray) (p t : List UInt8) : ∀ n k, hasGo text p t n k = true ↔ ∃ j, k ≤ j ∧ j < k + n ∧ haveAt p t (j + 1) = p.length ∧ edgeN text (j + 1 - p.length) = true ∧ edgeN text (j + 1) = true
  | 0, k => by
    unfold hasGo
    constructor
    · intro h; cases h
    · rintro ⟨j, h1, h2, _⟩; omega
  | n + 1, k => by
    unfold hasGo
    by_cases h : haveAt p t (k + 1) = p.length ∧ edgeN text (k + 1 - p.length) = true ∧ edgeN text (k + 1) = true
    · rw [if_pos h]
      exact ⟨fun _ => ⟨k, Nat.le_refl _, by omega, h⟩, fun _ => rfl⟩
    · rw [if_neg h, hasGo_iff text p t n (k + 1)]
      constructor
      · rintro ⟨j, h1, h2, h3⟩
        exact ⟨j, by omega, by omega, h3⟩
      · rintro ⟨j, h1, h2, h3⟩
        refine ⟨j, ?_, by omega, h3⟩
        by_cases e : j = k
        · subst e; exact absurd h3 h
        · omega
/-- S6: a part that is not empty stands in a text between edges. -/
theorem has_iff (text part : ByteArray) (h0 : part.size ≠ 0) (hl : (fold part).data.toList.length = part.size) (ht : (fold text).data.toList.length = text.size) :
    hasB text part = true ↔ ∃ a, a + part.size ≤ text.size ∧ edgeN text a = true ∧ edgeN text (a + part.size) = true ∧ ((fold text).data.toList.drop a).take part.size = (fold part).data.toList := by
  unfold hasB
  rw [if_neg h0, hasGo_iff]
  constructor
  · rintro ⟨j, _, h2, h3, h4, h5⟩
    rw [have_full _ _ (by omega) (j + 1) (by omega)] at h3
    rw [hl] at h3 h4
    refine ⟨j + 1 - part.size, by omega, h4, ?_, h3.2⟩
    rw [show j + 1 - part.size + part.size = j + 1 from by omega]
    exact h5
  · rintro ⟨a, h1, h2, h3, h4⟩
    refine ⟨a + part.size - 1, by omega, by omega, ?_⟩
    rw [show a + part.size - 1 + 1 = a + part.size from by omega, have_full _ _ (by omega) (a + part.size) (by omega), hl, show a + part.size - part.size = a from by omega]
    exact ⟨⟨by omega, h4⟩, h2, h3⟩
end Go.Sg
