/-
  Laid together by packg.py of FmA FmB FmC.
-/
import Derived.Test.YtdhgpkacilcfgaaGreatDoorFdB
import Derived.Sort.LotA
namespace Go.Fd
open Go.Sort
section
variable {α : Type} {lt : α → α → Bool}
/-- A class: of two in it neither is less. -/
def Cls (lt : α → α → Bool) (p : α → Bool) : Prop := ∀ x y, p x = true → p y = true → lt x y = false
/-- Those of a class stay in their order. -/
def Kp (lt : α → α → Bool) (l l' : List α) : Prop := ∀ p, Cls lt p → l'.filter p = l.filter p
theorem Kp.refl (l : List α) : Kp lt l l := fun _ _ => rfl
theorem Kp.trans {a b c : List α} (h : Kp lt a b) (g : Kp lt b c) : Kp lt a c := fun p hp => (g p hp).trans (h p hp)
theorem whole_parts {s m e : Nat} {d : Array α} (h1 : s ≤ m) (h2 : m ≤ e) : d.toList = d.toList.take s ++ ((d.toList.drop s).take (m - s) ++ ((d.toList.drop m).take (e - m) ++ d.toList.drop e)) := by
  have a1 : (d.toList.drop m).take (e - m) ++ d.toList.drop e = d.toList.drop m := by
    have := List.take_append_drop (e - m) (d.toList.drop m)
    rwa [List.drop_drop, show m + (e - m) = e by omega] at this
  have a2 : (d.toList.drop s).take (m - s) ++ d.toList.drop m = d.toList.drop s := by
    have := List.take_append_drop (m - s) (d.toList.drop s)
    rwa [List.drop_drop, show s + (m - s) = m by omega] at this
  rw [a1, a2, List.take_append_drop]
/-- Where one is taken from, if two parts that stand beside each other are put the other way round, or two parts are swapped. -/
def rF (s m e k : Nat) : Nat := if s ≤ k ∧ k < s + (e - m) then k + (m - s) else if s + (e - m) ≤ k ∧ k < e then k - (e - m) else k
def sF (a b n k : Nat) : Nat := if a ≤ k ∧ k < a + n then k + (b - a) else if b ≤ k ∧ k < b + n then k - (b - a) else k
end
section
variable {α : Type} [Inhabited α] {lt : α → α → Bool}
/-- Two parts that stand beside each other are put the other way round. -/
def Rt (s m e : Nat) (d d' : Array α) : Prop := d'.size = d.size ∧ ∀ k, d'[k]! = d[rF s m e k]!
theorem get_list (d : Array α) (k : Nat) (h : k < d.size) : d.toList[k]? = some d[k]! := by
  rw [Array.getElem?_toList, Array.getElem?_eq_getElem h, getElem!_pos d k h]
theorem Rt.parts {s m e : Nat} {d d' : Array α} (h : Rt s m e d d') (h1 : s ≤ m) (h2 : m ≤ e) (h3 : e ≤ d.size) :
    d'.toList = d.toList.take s ++ ((d.toList.drop m).take (e - m) ++ ((d.toList.drop s).take (m - s) ++ d.toList.drop e)) := by
  have hl : d.toList.length = d.size := by simp
  apply List.ext_getElem?
  intro k
  have hlen : (d.toList.take s ++ ((d.toList.drop m).take (e - m) ++ ((d.toList.drop s).take (m - s) ++ d.toList.drop e))).length = d.size := by simp; omega
  by_cases hk : k < d.size
  · rw [get_list d' k (by rw [h.1]; exact hk), h.2 k]
    unfold rF
    by_cases c1 : k < s
    · rw [List.getElem?_append_left (by simp; omega), List.getElem?_take_of_lt c1, get_list d k hk, if_neg (by omega), if_neg (by omega)]
    · rw [List.getElem?_append_right (by simp; omega)]
      simp only [List.length_take, hl, Nat.min_eq_left (show s ≤ d.size by omega)]
      by_cases c2 : k < s + (e - m)
      · rw [List.getElem?_append_left (by simp; omega), List.getElem?_take_of_lt (by omega), List.getElem?_drop, if_pos ⟨by omega, c2⟩, show m + (k - s) = k + (m - s) by omega, get_list d _ (by omega)]
      · rw [List.getElem?_append_right (by simp; omega)]
        simp only [List.length_take, List.length_drop, hl, Nat.min_eq_left (show e - m ≤ d.size - m by omega)]
        rw [if_neg (by omega)]
        by_cases c3 : k < e
        · rw [List.getElem?_append_left (by simp; omega), List.getElem?_take_of_lt (by omega), List.getElem?_drop, if_pos ⟨by omega, c3⟩, show s + (k - s - (e - m)) = k - (e - m) by omega, get_list d _ (by omega)]
        · rw [List.getElem?_append_right (by simp; omega)]
          simp only [List.length_take, List.length_drop, hl, Nat.min_eq_left (show m - s ≤ d.size - s by omega)]
          rw [List.getElem?_drop, if_neg (by omega), show e + (k - s - (e - m) - (m - s)) = k by omega, get_list d k hk]
  · rw [List.getElem?_eq_none (by simp [h.1]; omega), List.getElem?_eq_none (by omega)]
theorem mem_part {d : Array α} {a n : Nat} (h : a + n ≤ d.size) {x : α} (hx : x ∈ (d.toList.drop a).take n) : ∃ k, a ≤ k ∧ k < a + n ∧ x = d[k]! := by
  obtain ⟨i, hi⟩ := List.mem_iff_getElem?.1 hx
  rw [List.getElem?_take] at hi
  split at hi
  · rename_i hlt
    rw [List.getElem?_drop, get_list d _ (by omega)] at hi
    exact ⟨a + i, by omega, by omega, (Option.some.inj hi).symm⟩
  · cases hi
theorem Rt.kp {s m e : Nat} {d d' : Array α} (h : Rt s m e d d') (h1 : s ≤ m) (h2 : m ≤ e) (h3 : e ≤ d.size) (hlt : ∀ x y, s ≤ x → x < m → m ≤ y → y < e → lt d[y]! d[x]! = true) : Kp lt d.toList d'.toList := by
  intro p hp
  rw [h.parts h1 h2 h3]
  conv => rhs; rw [whole_parts (d := d) h1 h2]
  simp only [List.filter_append]
  have key : ((d.toList.drop m).take (e - m)).filter p ++ ((d.toList.drop s).take (m - s)).filter p = ((d.toList.drop s).take (m - s)).filter p ++ ((d.toList.drop m).take (e - m)).filter p := by
    by_cases hX : ((d.toList.drop s).take (m - s)).filter p = []
    · rw [hX]; simp
    · by_cases hY : ((d.toList.drop m).take (e - m)).filter p = []
      · rw [hY]; simp
      · exfalso
        obtain ⟨x, hx⟩ := List.exists_mem_of_ne_nil _ hX
        obtain ⟨y, hy⟩ := List.exists_mem_of_ne_nil _ hY
        obtain ⟨hx1, hx2⟩ := List.mem_filter.1 hx
        obtain ⟨hy1, hy2⟩ := List.mem_filter.1 hy
        obtain ⟨i, i1, i2, rfl⟩ := mem_part (by omega) hx1
        obtain ⟨j, j1, j2, rfl⟩ := mem_part (by omega) hy1
        have := hlt i j i1 (by omega) j1 (by omega)
        rw [hp _ _ hy2 hx2] at this
        cases this
  rw [← List.append_assoc (List.filter p (List.take (e - m) _)), key, List.append_assoc]
theorem swapR_get {a b n : Nat} : ∀ (t i : Nat) (d : Array α), n - i = t → i ≤ n → a + n ≤ b → b + n ≤ d.size → ∀ k, (swapR a b n i d)[k]! = if a + i ≤ k ∧ k < a + n then d[k + (b - a)]! else if b + i ≤ k ∧ k < b + n then d[k - (b - a)]! else d[k]!
  | 0, i, d, ht, hi, h1, h2, k => by
    unfold swapR
    rw [if_neg (by omega), if_neg (by omega), if_neg (by omega)]
  | t + 1, i, d, ht, hi, h1, h2, k => by
    unfold swapR
    rw [if_pos (by omega), swapR_get t (i + 1) _ (by omega) (by omega) h1 (by rw [swp_size]; exact h2)]
    have g := fun k => swp_get d (i := a + i) (j := b + i) (by omega) (by omega) k
    by_cases c1 : a + (i + 1) ≤ k ∧ k < a + n
    · rw [if_pos c1, g, if_neg (by omega), if_neg (by omega), if_pos ⟨by omega, c1.2⟩]
    · rw [if_neg c1]
      by_cases c2 : b + (i + 1) ≤ k ∧ k < b + n
      · rw [if_pos c2, g, if_neg (by omega), if_neg (by omega), if_neg (by omega), if_pos ⟨by omega, c2.2⟩]
      · rw [if_neg c2, g]
        by_cases c3 : k = b + i
        · rw [if_pos c3, if_neg (by omega), if_pos (by omega), show k - (b - a) = a + i by omega]
        · rw [if_neg c3]
          by_cases c4 : k = a + i
          · rw [if_pos c4, if_pos (by omega), show k + (b - a) = b + i by omega]
          · rw [if_neg c4, if_neg (by omega), if_neg (by omega)]
theorem swapR_at (a b n : Nat) (d : Array α) (h1 : a + n ≤ b) (h2 : b + n ≤ d.size) (k : Nat) : (swapR a b n 0 d)[k]! = d[sF a b n k]! := by
  rw [swapR_get _ 0 d rfl (Nat.zero_le _) h1 h2]
  unfold sF
  simp only [Nat.add_zero]
  split
  · rfl
  · split <;> rfl
theorem rot_rt : ∀ (t m i j : Nat) (d : Array α), i + j ≤ t → i ≤ m → m + j ≤ d.size → Rt (m - i) m (m + j) d (rot m i j d)
  | t, m, i, j, d, ht, hi, hj => by
    refine ⟨rot_sz m i j d, fun k => ?_⟩
    unfold rot
    by_cases e : i = j
    · subst e
      rw [if_pos rfl, swapR_at _ _ _ _ (by omega) (by omega)]
      congr 1
      unfold sF rF
      (repeat' split) <;> omega
    · rw [if_neg e]
      by_cases lt' : j < i
      · rw [if_pos lt']
        by_cases z : j = 0
        · subst z
          rw [dif_pos rfl]
          congr 1
          unfold rF
          (repeat' split) <;> omega
        · rw [dif_neg z]
          match t, ht with
          | 0, ht => omega
          | t + 1, ht =>
            rw [(rot_rt t m (i - j) j _ (by omega) (by omega) (by rw [swapR_sz]; exact hj)).2 k, swapR_at _ _ _ _ (by omega) (by omega)]
            congr 1
            unfold sF rF
            (repeat' split) <;> omega
      · rw [if_neg lt']
        by_cases z : i = 0
        · subst z
          rw [dif_pos rfl]
          congr 1
          unfold rF
          (repeat' split) <;> omega
        · rw [dif_neg z]
          match t, ht with
          | 0, ht => omega
          | t + 1, ht =>
            rw [(rot_rt t m i (j - i) _ (by omega) (by omega) (by rw [swapR_sz]; omega)).2 k, swapR_at _ _ _ _ (by omega) (by omega)]
            congr 1
            unfold sF rF
            (repeat' split) <;> omega
theorem shR_rt {e : Nat} : ∀ (t a : Nat) (d : Array α), e - a = t → a ≤ e → e < d.size → Rt a (a + 1) (e + 1) d (shR e a d)
  | 0, a, d, ht, h1, h2 => by
    obtain rfl : a = e := by omega
    refine ⟨shR_size _ _ _ rfl, fun k => ?_⟩
    unfold shR
    rw [if_neg (by omega)]
    congr 1
    unfold rF
    (repeat' split) <;> omega
  | t + 1, a, d, ht, h1, h2 => by
    refine ⟨shR_size _ _ _ rfl, fun k => ?_⟩
    unfold shR
    rw [if_pos (by omega), (shR_rt t (a + 1) _ (by omega) (by omega) (by rw [swp_size]; exact h2)).2 k, swp_get d (by omega) (by omega)]
    have g : ∀ x : Nat, (if x = a + 1 then d[a]! else if x = a then d[a + 1]! else d[x]!) = d[if x = a + 1 then a else if x = a then a + 1 else x]! := fun x => by
      split
      · rfl
      · split <;> rfl
    rw [g]
    congr 1
    unfold rF
    (repeat' split) <;> omega
theorem shL_rt {e : Nat} : ∀ (m : Nat) (d : Array α), e ≤ m → m < d.size → Rt e m (m + 1) d (shL e m d)
  | 0, d, h1, h2 => by
    refine ⟨shL_size _ _, fun k => ?_⟩
    unfold shL
    congr 1
    unfold rF
    (repeat' split) <;> omega
  | m + 1, d, h1, h2 => by
    refine ⟨shL_size _ _, fun k => ?_⟩
    unfold shL
    by_cases c : e < m + 1
    · rw [if_pos c, (shL_rt m _ (by omega) (by rw [swp_size]; omega)).2 k, swp_get d (by omega) (by omega)]
      have g : ∀ x : Nat, (if x = m then d[m + 1]! else if x = m + 1 then d[m]! else d[x]!) = d[if x = m then m + 1 else if x = m + 1 then m else x]! := fun x => by
        split
        · rfl
        · split <;> rfl
      rw [g]
      congr 1
      unfold rF
      (repeat' split) <;> omega
    · rw [if_neg c]
      congr 1
      unfold rF
      (repeat' split) <;> omega
end
end Go.Fd
namespace Go.Fd
open Go.Sort
section
variable {α : Type} {lt : α → α → Bool}
/-- Less or the same, then less. -/
theorem le_lt (hS : SWO lt) {x y z : α} (h1 : lt y x = false) (h2 : lt y z = true) : lt x z = true := by
  cases h : lt x z with
  | true => rfl
  | false =>
    have := hS.ntrans _ _ _ h1 h
    rw [h2] at this
    cases this
theorem lt_le (hS : SWO lt) {x y z : α} (h1 : lt x y = true) (h2 : lt z y = false) : lt x z = true := by
  cases h : lt x z with
  | true => rfl
  | false =>
    have := hS.ntrans _ _ _ h h2
    rw [h1] at this
    cases this
theorem asym (hS : SWO lt) {x y : α} (h : lt x y = true) : lt y x = false := by
  cases h2 : lt y x with
  | false => rfl
  | true =>
    have := hS.trans _ _ _ h h2
    rw [hS.irrefl] at this
    cases this
end
section
variable {α : Type} [Inhabited α] {lt : α → α → Bool}
theorem bs1_ok (hS : SWO lt) (a : Nat) (d : Array α) : ∀ (t i j : Nat), j - i ≤ t → i ≤ j → SortedIn lt i j d → i ≤ bs1 lt a i j d ∧ bs1 lt a i j d ≤ j ∧ (∀ k, i ≤ k → k < bs1 lt a i j d → lt d[k]! d[a]! = true) ∧ ∀ k, bs1 lt a i j d ≤ k → k < j → lt d[k]! d[a]! = false
  | t, i, j, ht, hij, hs => by
    unfold bs1
    by_cases c : i < j
    · rw [if_pos c]
      match t, ht with
      | 0, ht => omega
      | t + 1, ht =>
        have m1 : i ≤ (i + j) / 2 := by omega
        have m2 : (i + j) / 2 < j := by omega
        generalize (i + j) / 2 = m at *
        cases h : lt d[m]! d[a]! with
        | true =>
          rw [if_pos rfl]
          obtain ⟨k1, k2, k3, k4⟩ := bs1_ok hS a d t (m + 1) j (by omega) (by omega) (fun x y p1 p2 p3 => hs x y (by omega) p2 p3)
          refine ⟨by omega, k2, fun k p1 p2 => ?_, k4⟩
          by_cases e : k < m
          · exact le_lt hS (hs k m p1 e m2) h
          · by_cases e' : k = m
            · rw [e']; exact h
            · exact k3 k (by omega) p2
        | false =>
          rw [if_neg (by simp)]
          obtain ⟨k1, k2, k3, k4⟩ := bs1_ok hS a d t i m (by omega) m1 (fun x y p1 p2 p3 => hs x y p1 p2 (by omega))
          refine ⟨k1, by omega, k3, fun k p1 p2 => ?_⟩
          by_cases e : k < m
          · exact k4 k p1 e
          · by_cases e' : k = m
            · rw [e']; exact h
            · exact hS.ntrans _ _ _ (hs m k m1 (by omega) p2) h
    · rw [if_neg c]
      exact ⟨Nat.le_refl _, hij, fun k p1 p2 => by omega, fun k p1 p2 => by omega⟩
theorem bs2_ok (hS : SWO lt) (m0 : Nat) (d : Array α) : ∀ (t i j : Nat), j - i ≤ t → i ≤ j → SortedIn lt i j d → i ≤ bs2 lt m0 i j d ∧ bs2 lt m0 i j d ≤ j ∧ (∀ k, i ≤ k → k < bs2 lt m0 i j d → lt d[m0]! d[k]! = false) ∧ ∀ k, bs2 lt m0 i j d ≤ k → k < j → lt d[m0]! d[k]! = true
  | t, i, j, ht, hij, hs => by
    unfold bs2
    by_cases c : i < j
    · rw [if_pos c]
      match t, ht with
      | 0, ht => omega
      | t + 1, ht =>
        have m1 : i ≤ (i + j) / 2 := by omega
        have m2 : (i + j) / 2 < j := by omega
        generalize (i + j) / 2 = m at *
        cases h : lt d[m0]! d[m]! with
        | false =>
          rw [if_neg (by simp)]
          obtain ⟨k1, k2, k3, k4⟩ := bs2_ok hS m0 d t (m + 1) j (by omega) (by omega) (fun x y p1 p2 p3 => hs x y (by omega) p2 p3)
          refine ⟨by omega, k2, fun k p1 p2 => ?_, k4⟩
          by_cases e : k < m
          · exact hS.ntrans _ _ _ h (hs k m p1 e m2)
          · by_cases e' : k = m
            · rw [e']; exact h
            · exact k3 k (by omega) p2
        | true =>
          rw [if_pos rfl]
          obtain ⟨k1, k2, k3, k4⟩ := bs2_ok hS m0 d t i m (by omega) m1 (fun x y p1 p2 p3 => hs x y p1 p2 (by omega))
          refine ⟨k1, by omega, k3, fun k p1 p2 => ?_⟩
          by_cases e : k < m
          · exact k4 k p1 e
          · by_cases e' : k = m
            · rw [e']; exact h
            · exact lt_le hS h (hs m k m1 (by omega) p2)
    · rw [if_neg c]
      exact ⟨Nat.le_refl _, hij, fun k p1 p2 => by omega, fun k p1 p2 => by omega⟩
theorem bs3_ok (p : Nat) (d : Array α) : ∀ (t i j : Nat), j - i ≤ t → i ≤ j → (∀ x y, i ≤ x → x < y → y < j → lt d[p - x]! d[x]! = true → lt d[p - y]! d[y]! = true) → i ≤ bs3 lt p i j d ∧ bs3 lt p i j d ≤ j ∧ (∀ k, i ≤ k → k < bs3 lt p i j d → lt d[p - k]! d[k]! = false) ∧ ∀ k, bs3 lt p i j d ≤ k → k < j → lt d[p - k]! d[k]! = true
  | t, i, j, ht, hij, hs => by
    unfold bs3
    by_cases c : i < j
    · rw [if_pos c]
      match t, ht with
      | 0, ht => omega
      | t + 1, ht =>
        have m1 : i ≤ (i + j) / 2 := by omega
        have m2 : (i + j) / 2 < j := by omega
        generalize (i + j) / 2 = m at *
        cases h : lt d[p - m]! d[m]! with
        | false =>
          rw [if_neg (by simp)]
          obtain ⟨k1, k2, k3, k4⟩ := bs3_ok p d t (m + 1) j (by omega) (by omega) (fun x y p1 p2 p3 => hs x y (by omega) p2 p3)
          refine ⟨by omega, k2, fun k p1 p2 => ?_, k4⟩
          by_cases e : k < m
          · cases h2 : lt d[p - k]! d[k]! with
            | false => rfl
            | true =>
              rw [hs k m p1 e m2 h2] at h
              cases h
          · by_cases e' : k = m
            · rw [e']; exact h
            · exact k3 k (by omega) p2
        | true =>
          rw [if_pos rfl]
          obtain ⟨k1, k2, k3, k4⟩ := bs3_ok p d t i m (by omega) m1 (fun x y p1 p2 p3 => hs x y p1 p2 (by omega))
          refine ⟨k1, by omega, k3, fun k p1 p2 => ?_⟩
          by_cases e : k < m
          · exact k4 k p1 e
          · by_cases e' : k = m
            · rw [e']; exact h
            · exact hs m k m1 (by omega) p2 h
    · rw [if_neg c]
      exact ⟨Nat.le_refl _, hij, fun k p1 p2 => by omega, fun k p1 p2 => by omega⟩
/-- A part is turned in itself, those that are alike in their order. -/
structure Tn (lt : α → α → Bool) (a b : Nat) (d d' : Array α) : Prop where
  sz : d'.size = d.size
  out : ∀ k, k < a ∨ b ≤ k → d'[k]! = d[k]!
  inn : ∀ k, a ≤ k → k < b → ∃ k', a ≤ k' ∧ k' < b ∧ d'[k]! = d[k']!
  kp : Kp lt d.toList d'.toList
theorem Tn.refl (a b : Nat) (d : Array α) : Tn lt a b d d := ⟨rfl, fun _ _ => rfl, fun k h1 h2 => ⟨k, h1, h2, rfl⟩, Kp.refl _⟩
theorem Tn.trans {a b : Nat} {d d' d'' : Array α} (h : Tn lt a b d d') (g : Tn lt a b d' d'') : Tn lt a b d d'' :=
  ⟨g.sz.trans h.sz, fun k hk => (g.out k hk).trans (h.out k hk), fun k h1 h2 => by
    obtain ⟨k', e1, e2, e3⟩ := g.inn k h1 h2
    obtain ⟨k'', f1, f2, f3⟩ := h.inn k' e1 e2
    exact ⟨k'', f1, f2, e3.trans f3⟩, h.kp.trans g.kp⟩
theorem Tn.mono {a b a' b' : Nat} {d d' : Array α} (h : Tn lt a b d d') (h1 : a' ≤ a) (h2 : b ≤ b') : Tn lt a' b' d d' :=
  ⟨h.sz, fun k hk => h.out k (by omega), fun k e1 e2 => by
    by_cases c : a ≤ k ∧ k < b
    · obtain ⟨k', f1, f2, f3⟩ := h.inn k c.1 c.2
      exact ⟨k', by omega, by omega, f3⟩
    · exact ⟨k, e1, e2, h.out k (by omega)⟩, h.kp⟩
theorem Rt.tn {s m e : Nat} {d d' : Array α} (h : Rt s m e d d') (h1 : s ≤ m) (h2 : m ≤ e) (h3 : e ≤ d.size) (hlt : ∀ x y, s ≤ x → x < m → m ≤ y → y < e → lt d[y]! d[x]! = true) : Tn lt s e d d' := by
  refine ⟨h.1, fun k hk => ?_, fun k e1 e2 => ⟨rF s m e k, ?_, ?_, h.2 k⟩, h.kp h1 h2 h3 hlt⟩
  · rw [h.2 k]
    congr 1
    unfold rF
    (repeat' split) <;> omega
  · unfold rF
    (repeat' split) <;> omega
  · unfold rF
    (repeat' split) <;> omega
theorem rt_none {s m e : Nat} {d : Array α} (h : s = m ∨ m = e) (h1 : s ≤ m) (h2 : m ≤ e) : Rt s m e d d := by
  refine ⟨rfl, fun k => ?_⟩
  congr 1
  unfold rF
  (repeat' split) <;> omega
/-- The middle: where the two parts are cut, and what stands where behind that. -/
theorem sym_mid (hS : SWO lt) {a m b mid s e : Nat} {d d1 : Array α} (h1 : SortedIn lt a m d) (h2 : SortedIn lt m b d) (ha : a ≤ s) (hs : s ≤ m) (hs2 : s ≤ mid) (he : e = mid + m - s) (hb : e ≤ b)
    (hlo : ∀ x y, a ≤ x → x < s → e ≤ y → y < b → lt d[y]! d[x]! = false) (hst : ∀ x y, s ≤ x → x < m → m ≤ y → y < e → lt d[y]! d[x]! = true) (hR : Rt s m e d d1) :
    SortedIn lt a s d1 ∧ SortedIn lt s mid d1 ∧ SortedIn lt mid e d1 ∧ SortedIn lt e b d1 ∧ ∀ x y, a ≤ x → x < mid → mid ≤ y → y < b → lt d1[y]! d1[x]! = false := by
  have r1 : ∀ k, k < s → d1[k]! = d[k]! := fun k hk => by rw [hR.2]; congr 1; unfold rF; (repeat' split) <;> omega
  have r2 : ∀ k, s ≤ k → k < mid → d1[k]! = d[k + (m - s)]! := fun k hk hk2 => by rw [hR.2]; congr 1; unfold rF; (repeat' split) <;> omega
  have r3 : ∀ k, mid ≤ k → k < e → d1[k]! = d[k - (mid - s)]! := fun k hk hk2 => by rw [hR.2]; congr 1; unfold rF; (repeat' split) <;> omega
  have r4 : ∀ k, e ≤ k → d1[k]! = d[k]! := fun k hk => by rw [hR.2]; congr 1; unfold rF; (repeat' split) <;> omega
  refine ⟨fun x y p1 p2 p3 => ?_, fun x y p1 p2 p3 => ?_, fun x y p1 p2 p3 => ?_, fun x y p1 p2 p3 => ?_, fun x y p1 p2 p3 p4 => ?_⟩
  · rw [r1 x (by omega), r1 y p3]; exact h1 x y p1 p2 (by omega)
  · rw [r2 x p1 (by omega), r2 y (by omega) p3]; exact h2 _ _ (by omega) (by omega) (by omega)
  · rw [r3 x p1 (by omega), r3 y (by omega) p3]; exact h1 _ _ (by omega) (by omega) (by omega)
  · rw [r4 x p1, r4 y (by omega)]; exact h2 x y (by omega) p2 p3
  · by_cases c1 : x < s
    · rw [r1 x c1]
      by_cases c2 : y < e
      · rw [r3 y p3 c2]; exact h1 _ _ p1 (by omega) (by omega)
      · rw [r4 y (by omega)]; exact hlo x y p1 c1 (by omega) p4
    · rw [r2 x (by omega) p2]
      by_cases c2 : y < e
      · rw [r3 y p3 c2]
        exact asym hS (hst _ _ (by omega) (by omega) (by omega) (by omega))
      · rw [r4 y (by omega)]; exact h2 _ _ (by omega) (by omega) p4
theorem sym_ok (hS : SWO lt) : ∀ (f a m b : Nat) (d : Array α), b - a ≤ f → a < m → m < b → b ≤ d.size → SortedIn lt a m d → SortedIn lt m b d → Tn lt a b d (sym lt f a m b d) ∧ SortedIn lt a b (sym lt f a m b d)
  | 0, a, m, b, d, hf, h1, h2, _, _, _ => by omega
  | f + 1, a, m, b, d, hf, h1, h2, h3, s1, s2 => by
    unfold sym
    by_cases c1 : m - a = 1
    · rw [if_pos c1]
      obtain rfl : m = a + 1 := by omega
      obtain ⟨k1, k2, k3, k4⟩ := bs1_ok hS a d _ (a + 1) b (Nat.le_refl _) (by omega) s2
      generalize bs1 lt a (a + 1) b d = e at *
      have hR : Rt a (a + 1) e d (shR (e - 1) a d) := by
        have := shR_rt (e := e - 1) _ a d rfl (by omega) (by omega)
        rwa [show e - 1 + 1 = e by omega] at this
      refine ⟨(hR.tn (by omega) k1 (by omega) (fun x y p1 p2 p3 p4 => by rw [show x = a from by omega]; exact k3 y p3 p4)).mono (Nat.le_refl _) k2, fun x y p1 p2 p3 => ?_⟩
      have r1 : ∀ k, a ≤ k → k < e - 1 → (shR (e - 1) a d)[k]! = d[k + 1]! := fun k hk hk2 => by rw [hR.2]; congr 1; unfold rF; (repeat' split) <;> omega
      have r2 : (shR (e - 1) a d)[e - 1]! = d[a]! := by rw [hR.2]; congr 1; unfold rF; (repeat' split) <;> omega
      have r3 : ∀ k, e ≤ k → (shR (e - 1) a d)[k]! = d[k]! := fun k hk => by rw [hR.2]; congr 1; unfold rF; (repeat' split) <;> omega
      by_cases c2 : x < e - 1
      · rw [r1 x p1 c2]
        by_cases c3 : y < e - 1
        · rw [r1 y (by omega) c3]; exact s2 _ _ (by omega) (by omega) (by omega)
        · by_cases c4 : y = e - 1
          · rw [c4, r2]; exact asym hS (k3 _ (by omega) (by omega))
          · rw [r3 y (by omega)]; exact s2 _ _ (by omega) (by omega) p3
      · by_cases c4 : x = e - 1
        · rw [c4, r2, r3 y (by omega)]; exact k4 y (by omega) p3
        · rw [r3 x (by omega), r3 y (by omega)]; exact s2 _ _ (by omega) p2 p3
    · rw [if_neg c1]
      by_cases c2 : b - m = 1
      · rw [if_pos c2]
        obtain rfl : b = m + 1 := by omega
        obtain ⟨k1, k2, k3, k4⟩ := bs2_ok hS m d _ a m (Nat.le_refl _) (by omega) s1
        generalize bs2 lt m a m d = e at *
        have hR : Rt e m (m + 1) d (shL e m d) := shL_rt m d k2 (by omega)
        refine ⟨(hR.tn k2 (by omega) (by omega) (fun x y p1 p2 p3 p4 => by rw [show y = m from by omega]; exact k4 x p1 p2)).mono k1 (Nat.le_refl _), fun x y p1 p2 p3 => ?_⟩
        have r1 : ∀ k, k < e → (shL e m d)[k]! = d[k]! := fun k hk => by rw [hR.2]; congr 1; unfold rF; (repeat' split) <;> omega
        have r2 : (shL e m d)[e]! = d[m]! := by rw [hR.2]; congr 1; unfold rF; (repeat' split) <;> omega
        have r3 : ∀ k, e < k → k < m + 1 → (shL e m d)[k]! = d[k - 1]! := fun k hk hk2 => by rw [hR.2]; congr 1; unfold rF; (repeat' split) <;> omega
        by_cases c3 : x < e
        · rw [r1 x c3]
          by_cases c4 : y < e
          · rw [r1 y c4]; exact s1 _ _ p1 p2 (by omega)
          · by_cases c5 : y = e
            · rw [c5, r2]; exact k3 x p1 c3
            · rw [r3 y (by omega) p3]; exact s1 _ _ p1 (by omega) (by omega)
        · by_cases c4 : x = e
          · rw [c4, r2, r3 y (by omega) p3]
            exact asym hS (k4 _ (by omega) (by omega))
          · rw [r3 x (by omega) (by omega), r3 y (by omega) p3]; exact s1 _ _ (by omega) (by omega) (by omega)
      · rw [if_neg c2]
        have m1 : a < (a + b) / 2 := by omega
        have m2 : (a + b) / 2 < b := by omega
        have m3 : 2 * ((a + b) / 2) ≤ a + b := by omega
        have m4 : a + b ≤ 2 * ((a + b) / 2) + 1 := by omega
        generalize (a + b) / 2 = mid at *
        have hsearch : ∃ s, (if mid < m then bs3 lt (mid + m - 1) (mid + m - b) mid d else bs3 lt (mid + m - 1) a m d) = s ∧ a ≤ s ∧ s ≤ m ∧ s ≤ mid ∧ mid + m - s ≤ b ∧ (∀ x y, a ≤ x → x < s → mid + m - s ≤ y → y < b → lt d[y]! d[x]! = false) ∧ ∀ x y, s ≤ x → x < m → m ≤ y → y < mid + m - s → lt d[y]! d[x]! = true := by
          by_cases c : mid < m
          · rw [if_pos c]
            obtain ⟨k1, k2, k3, k4⟩ := bs3_ok (lt := lt) (mid + m - 1) d _ (mid + m - b) mid (Nat.le_refl _) (by omega) (fun x y p1 p2 p3 hx => le_lt hS (s2 (mid + m - 1 - y) (mid + m - 1 - x) (by omega) (by omega) (by omega)) (lt_le hS hx (s1 x y (by omega) p2 (by omega))))
            refine ⟨_, rfl, by omega, by omega, k2, by omega, fun x y p1 p2 p3 p4 => ?_, fun x y p1 p2 p3 p4 => ?_⟩
            · generalize bs3 lt (mid + m - 1) (mid + m - b) mid d = s at *
              have h0 := k3 (s - 1) (by omega) (by omega)
              have e0 : mid + m - 1 - (s - 1) = mid + m - s := by omega
              rw [e0] at h0
              have h5 : lt d[y]! d[s - 1]! = false := by
                by_cases q : y = mid + m - s
                · rw [q]; exact h0
                · exact hS.ntrans _ _ _ (s2 (mid + m - s) y (by omega) (by omega) p4) h0
              by_cases q : x = s - 1
              · rw [q]; exact h5
              · exact hS.ntrans _ _ _ h5 (s1 x (s - 1) p1 (by omega) (by omega))
            · generalize bs3 lt (mid + m - 1) (mid + m - b) mid d = s at *
              have h0 := k4 s (Nat.le_refl _) (by omega)
              have e0 : mid + m - 1 - s = mid + m - s - 1 := by omega
              rw [e0] at h0
              have h5 : lt d[y]! d[s]! = true := by
                by_cases q : y = mid + m - s - 1
                · rw [q]; exact h0
                · exact le_lt hS (s2 y (mid + m - s - 1) p3 (by omega) (by omega)) h0
              by_cases q : x = s
              · rw [q]; exact h5
              · exact lt_le hS h5 (s1 s x (by omega) (by omega) p2)
          · rw [if_neg c]
            obtain ⟨k1, k2, k3, k4⟩ := bs3_ok (lt := lt) (mid + m - 1) d _ a m (Nat.le_refl _) (by omega) (fun x y p1 p2 p3 hx => le_lt hS (s2 (mid + m - 1 - y) (mid + m - 1 - x) (by omega) (by omega) (by omega)) (lt_le hS hx (s1 x y (by omega) p2 (by omega))))
            refine ⟨_, rfl, k1, k2, by omega, by omega, fun x y p1 p2 p3 p4 => ?_, fun x y p1 p2 p3 p4 => ?_⟩
            · generalize bs3 lt (mid + m - 1) a m d = s at *
              have h0 := k3 (s - 1) (by omega) (by omega)
              have e0 : mid + m - 1 - (s - 1) = mid + m - s := by omega
              rw [e0] at h0
              have h5 : lt d[y]! d[s - 1]! = false := by
                by_cases q : y = mid + m - s
                · rw [q]; exact h0
                · exact hS.ntrans _ _ _ (s2 (mid + m - s) y (by omega) (by omega) p4) h0
              by_cases q : x = s - 1
              · rw [q]; exact h5
              · exact hS.ntrans _ _ _ h5 (s1 x (s - 1) p1 (by omega) (by omega))
            · generalize bs3 lt (mid + m - 1) a m d = s at *
              have h0 := k4 s (Nat.le_refl _) (by omega)
              have e0 : mid + m - 1 - s = mid + m - s - 1 := by omega
              rw [e0] at h0
              have h5 : lt d[y]! d[s]! = true := by
                by_cases q : y = mid + m - s - 1
                · rw [q]; exact h0
                · exact le_lt hS (s2 y (mid + m - s - 1) p3 (by omega) (by omega)) h0
              by_cases q : x = s
              · rw [q]; exact h5
              · exact lt_le hS h5 (s1 s x (by omega) (by omega) p2)
        obtain ⟨s, hse, q1, q2, q3, q4, q5, q6⟩ := hsearch
        dsimp only
        rw [hse]
        obtain ⟨e, he⟩ : ∃ e, e = mid + m - s := ⟨_, rfl⟩
        rw [← he] at q4 q5 q6 ⊢
        have hR : Rt s m e d (if s < m ∧ m < e then rot m (m - s) (e - m) d else d) := by
          split
          · have := rot_rt _ m (m - s) (e - m) d (Nat.le_refl _) (by omega) (by omega)
            rwa [show m - (m - s) = s by omega, show m + (e - m) = e by omega] at this
          · exact rt_none (by omega) (by omega) (by omega)
        have t1 := hR.tn q2 (by omega) (by omega) q6
        obtain ⟨u1, u2, u3, u4, u5⟩ := sym_mid hS s1 s2 q1 q2 q3 he q4 q5 q6 hR
        generalize (if s < m ∧ m < e then rot m (m - s) (e - m) d else d) = d1 at *
        have hz1 : d1.size = d.size := t1.sz
        have v2 : Tn lt a mid d1 (if a < s ∧ s < mid then sym lt f a s mid d1 else d1) ∧ SortedIn lt a mid (if a < s ∧ s < mid then sym lt f a s mid d1 else d1) := by
          split
          · exact sym_ok hS f a s mid d1 (by omega) (by omega) (by omega) (by omega) u1 u2
          · refine ⟨Tn.refl _ _ _, fun x y p1 p2 p3 => ?_⟩
            by_cases c : a = s
            · exact u2 x y (by omega) p2 p3
            · exact u1 x y p1 p2 (by omega)
        generalize (if a < s ∧ s < mid then sym lt f a s mid d1 else d1) = d2 at *
        have hz2 : d2.size = d.size := v2.1.sz.trans hz1
        have o2 : ∀ k, mid ≤ k → d2[k]! = d1[k]! := fun k hk => v2.1.out k (.inr hk)
        have w3 : SortedIn lt mid e d2 := fun x y p1 p2 p3 => by rw [o2 x p1, o2 y (by omega)]; exact u3 x y p1 p2 p3
        have w4 : SortedIn lt e b d2 := fun x y p1 p2 p3 => by rw [o2 x (by omega), o2 y (by omega)]; exact u4 x y p1 p2 p3
        have v3 : Tn lt mid b d2 (if mid < e ∧ e < b then sym lt f mid e b d2 else d2) ∧ SortedIn lt mid b (if mid < e ∧ e < b then sym lt f mid e b d2 else d2) := by
          split
          · exact sym_ok hS f mid e b d2 (by omega) (by omega) (by omega) (by omega) w3 w4
          · refine ⟨Tn.refl _ _ _, fun x y p1 p2 p3 => ?_⟩
            by_cases c : mid = e
            · exact w4 x y (by omega) p2 p3
            · exact w3 x y p1 p2 (by omega)
        generalize (if mid < e ∧ e < b then sym lt f mid e b d2 else d2) = d3 at *
        refine ⟨((t1.mono q1 q4).trans (v2.1.mono (Nat.le_refl _) (by omega))).trans (v3.1.mono (by omega) (Nat.le_refl _)), fun x y p1 p2 p3 => ?_⟩
        by_cases c3 : y < mid
        · rw [v3.1.out x (.inl (by omega)), v3.1.out y (.inl c3)]; exact v2.2 x y p1 p2 c3
        · by_cases c4 : x < mid
          · rw [v3.1.out x (.inl c4)]
            obtain ⟨x', x1, x2, x3⟩ := v2.1.inn x p1 c4
            obtain ⟨y', y1, y2, y3⟩ := v3.1.inn y (by omega) p3
            rw [x3, y3, o2 y' y1]
            exact u5 x' y' x1 x2 y1 y2
          · exact v3.2 x y (by omega) p2 p3
end
end Go.Fd
namespace Go.Fd
open Go.Sort
section
variable {α : Type} [Inhabited α] {lt : α → α → Bool}
theorem insInner_tn (a b : Nat) : ∀ (j : Nat) (d : Array α), j < b → b ≤ d.size → Tn lt a b d (insInner lt a j d)
  | 0, d, _, _ => Tn.refl _ _ _
  | j + 1, d, h1, h2 => by
    unfold insInner
    split
    · rename_i c
      simp only [Bool.and_eq_true, decide_eq_true_eq] at c
      have hR : Rt j (j + 1) (j + 2) d (swp d (j + 1) j) := by
        refine ⟨swp_size _ _ _, fun k => ?_⟩
        rw [swp_get d (by omega) (by omega)]
        have g : (if k = j then d[j + 1]! else if k = j + 1 then d[j]! else d[k]!) = d[if k = j then j + 1 else if k = j + 1 then j else k]! := by
          split
          · rfl
          · split <;> rfl
        rw [g]
        congr 1
        unfold rF
        (repeat' split) <;> omega
      have t1 := (hR.tn (lt := lt) (by omega) (by omega) (by omega) (fun x y p1 p2 p3 p4 => by rw [show x = j from by omega, show y = j + 1 from by omega]; exact c.2)).mono (a' := a) (b' := b) (by omega) (by omega)
      exact t1.trans (insInner_tn a b j _ (by omega) (by rw [swp_size]; exact h2))
    · exact Tn.refl _ _ _
theorem insOuter_tn (a b : Nat) : ∀ (t i : Nat) (d : Array α), b - i = t → b ≤ d.size → Tn lt a b d (insOuter lt a b i d)
  | 0, i, d, ht, h2 => by
    unfold insOuter
    rw [if_neg (by omega)]
    exact Tn.refl _ _ _
  | t + 1, i, d, ht, h2 => by
    unfold insOuter
    rw [if_pos (by omega)]
    exact (insInner_tn a b i d (by omega) h2).trans (insOuter_tn a b t (i + 1) _ (by omega) (by rw [insInner_sz]; exact h2))
theorem ins_ok (hS : SWO lt) (d : Array α) (a b : Nat) (h1 : a ≤ b) (h2 : b ≤ d.size) : Tn lt a b d (insertionSort lt d a b) ∧ SortedIn lt a b (insertionSort lt d a b) :=
  ⟨insOuter_tn a b _ _ d rfl h2, (insertionSort_holds hS d a b h1 h2).2⟩
/-- Sorted by parts of so many, from a on. -/
def Blk (lt : α → α → Bool) (bs a n : Nat) (d : Array α) : Prop := ∀ q, SortedIn lt (a + q * bs) (min (a + (q + 1) * bs) n) d
theorem sorted_out {a b a' b' : Nat} {d d' : Array α} (h : SortedIn lt a b d) (g : Tn lt a' b' d d') (hd : b ≤ a' ∨ b' ≤ a) : SortedIn lt a b d' := fun x y p1 p2 p3 => by
  rw [g.out x (by omega), g.out y (by omega)]
  exact h x y p1 p2 p3
theorem insB_ok (hS : SWO lt) (n : Nat) : ∀ (t a : Nat) (d : Array α), n - a ≤ t → a ≤ n → n ≤ d.size → Tn lt a n d (insB lt n a d) ∧ Blk lt 20 a n (insB lt n a d)
  | t, a, d, ht, ha, hn => by
    unfold insB
    by_cases c : a + 20 ≤ n
    · rw [if_pos c]
      match t, ht with
      | 0, ht => omega
      | t + 1, ht =>
        obtain ⟨k1, k2⟩ := ins_ok hS d a (a + 20) (by omega) (by omega)
        obtain ⟨g1, g2⟩ := insB_ok hS n t (a + 20) (insertionSort lt d a (a + 20)) (by omega) c (by rw [k1.sz]; exact hn)
        refine ⟨(k1.mono (Nat.le_refl _) c).trans (g1.mono (by omega) (Nat.le_refl _)), fun q => ?_⟩
        cases q with
        | zero =>
          have := sorted_out k2 g1 (.inl (Nat.le_refl _))
          intro x y p1 p2 p3
          exact this x y (by omega) p2 (by omega)
        | succ q =>
          have := g2 q
          intro x y p1 p2 p3
          exact this x y (by omega) p2 (by omega)
    · rw [if_neg c]
      obtain ⟨k1, k2⟩ := ins_ok hS d a n ha hn
      refine ⟨k1, fun q x y p1 p2 p3 => k2 x y (by omega) p2 (by omega)⟩
theorem merI_ok (hS : SWO lt) (n bs : Nat) (hbs : 0 < bs) : ∀ (t a : Nat) (d : Array α), n - a ≤ t → n ≤ d.size → Blk lt bs a n d → Tn lt a n d (merI lt n bs a d) ∧ Blk lt (bs * 2) a n (merI lt n bs a d)
  | t, a, d, ht, hn, hB => by
    have b0 : SortedIn lt a (min (a + bs) n) d := by
      have := hB 0
      intro x y p1 p2 p3
      exact this x y (by omega) p2 (by omega)
    have b1 : SortedIn lt (a + bs) (min (a + 2 * bs) n) d := by
      have := hB 1
      intro x y p1 p2 p3
      exact this x y (by omega) p2 (by omega)
    unfold merI
    by_cases c : a + 2 * bs ≤ n ∧ 0 < bs
    · rw [dif_pos c]
      match t, ht with
      | 0, ht => omega
      | t + 1, ht =>
        obtain ⟨k1, k2⟩ := sym_ok hS n a (a + bs) (a + 2 * bs) d (by omega) (by omega) (by omega) (by omega) (fun x y p1 p2 p3 => b0 x y p1 p2 (by omega)) (fun x y p1 p2 p3 => b1 x y p1 p2 (by omega))
        obtain ⟨g1, g2⟩ := merI_ok hS n bs hbs t (a + 2 * bs) (sym lt n a (a + bs) (a + 2 * bs) d) (by omega) (by rw [k1.sz]; exact hn) (fun q => by
          have h1 := hB (q + 2)
          have e1 : a + (q + 2) * bs = a + 2 * bs + q * bs := by rw [Nat.add_mul]; omega
          have e2 : a + (q + 2 + 1) * bs = a + 2 * bs + (q + 1) * bs := by rw [show q + 2 + 1 = (q + 1) + 2 by omega, Nat.add_mul (q + 1) 2]; omega
          rw [e1, e2] at h1
          exact sorted_out h1 k1 (.inr (by omega)))
        refine ⟨(k1.mono (Nat.le_refl _) c.1).trans (g1.mono (by omega) (Nat.le_refl _)), fun q => ?_⟩
        cases q with
        | zero =>
          have := sorted_out k2 g1 (.inl (Nat.le_refl _))
          intro x y p1 p2 p3
          exact this x y (by omega) p2 (by omega)
        | succ q =>
          have h1 := g2 q
          have e1 : a + (q + 1) * (bs * 2) = a + 2 * bs + q * (bs * 2) := by rw [Nat.add_mul]; omega
          have e2 : a + (q + 1 + 1) * (bs * 2) = a + 2 * bs + (q + 1) * (bs * 2) := by rw [Nat.add_mul (q + 1) 1]; omega
          rw [e1, e2]
          exact h1
    · rw [dif_neg c]
      have few : ∀ q, 0 < q → ∀ x y, a + q * (bs * 2) ≤ x → x < y → y < min (a + (q + 1) * (bs * 2)) n → False := fun q hq x y p1 p2 p3 => by
        have : bs * 2 ≤ q * (bs * 2) := Nat.le_mul_of_pos_left _ hq
        omega
      by_cases c2 : a + bs < n
      · rw [if_pos c2]
        obtain ⟨k1, k2⟩ := sym_ok hS n a (a + bs) n d (by omega) (by omega) c2 hn (fun x y p1 p2 p3 => b0 x y p1 p2 (by omega)) (fun x y p1 p2 p3 => b1 x y p1 p2 (by omega))
        refine ⟨k1, fun q x y p1 p2 p3 => ?_⟩
        cases q with
        | zero => exact k2 x y (by omega) p2 (by omega)
        | succ q => exact (few (q + 1) (by omega) x y p1 p2 p3).elim
      · rw [if_neg c2]
        refine ⟨Tn.refl _ _ _, fun q x y p1 p2 p3 => ?_⟩
        cases q with
        | zero => exact b0 x y (by omega) p2 (by omega)
        | succ q => exact (few (q + 1) (by omega) x y p1 p2 p3).elim
theorem merO_ok (hS : SWO lt) (n : Nat) : ∀ (t bs : Nat) (d : Array α), n - bs ≤ t → 0 < bs → n ≤ d.size → Blk lt bs 0 n d → Tn lt 0 n d (merO lt n bs d) ∧ SortedIn lt 0 n (merO lt n bs d)
  | t, bs, d, ht, hbs, hn, hB => by
    unfold merO
    by_cases c : bs < n ∧ 0 < bs
    · rw [dif_pos c]
      match t, ht with
      | 0, ht => omega
      | t + 1, ht =>
        obtain ⟨k1, k2⟩ := merI_ok hS n bs hbs _ 0 d (Nat.le_refl _) hn hB
        obtain ⟨g1, g2⟩ := merO_ok hS n t (bs * 2) _ (by omega) (by omega) (by rw [k1.sz]; exact hn) k2
        exact ⟨k1.trans g1, g2⟩
    · rw [dif_neg c]
      refine ⟨Tn.refl _ _ _, fun x y p1 p2 p3 => ?_⟩
      have := hB 0
      exact this x y (by omega) p2 (by omega)
/-- The stable sort: sorted, and those that are alike in their order. -/
theorem stabA_ok (hS : SWO lt) (d : Array α) : Kp lt d.toList (stabA lt d).toList ∧ SortedIn lt 0 d.size (stabA lt d) := by
  unfold stabA
  obtain ⟨k1, k2⟩ := insB_ok hS d.size _ 0 d (Nat.le_refl _) (Nat.zero_le _) (Nat.le_refl _)
  obtain ⟨g1, g2⟩ := merO_ok hS d.size _ 20 (insB lt d.size 0 d) (Nat.le_refl _) (by omega) (by rw [k1.sz]; exact Nat.le_refl _) k2
  exact ⟨k1.kp.trans g1.kp, g2⟩
end
end Go.Fd
