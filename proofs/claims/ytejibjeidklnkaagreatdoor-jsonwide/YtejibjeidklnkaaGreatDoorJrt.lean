/-
  What is printed is read as itself: every value that may be. Nothing of the program.
-/
import Derived.Test.YtejibjeidklnkaaGreatDoorJqs
import Derived.Test.YtejibjeidklnkaaGreatDoorJma
namespace Go.Jv
open Go.Lib
theorem run_sx {f : UInt8 → Bool} {t : ByteArray} {p : Nat} {l r : List UInt8} (h : t.data.toList.drop p = l ++ r) (hl : ∀ c ∈ l, f c = true) (hr : ∀ c, r.head? = some c → f c = false) : run f t p = p + l.length := by
  have hz := sx_size h
  have hg : ∀ j, j < l.length → f (t.get! (p + j)) = true := fun j hj => by
    rw [Sg.get!_drop, h, List.getD_eq_getElem?_getD, List.getElem?_append_left hj, List.getElem?_eq_getElem hj]
    exact hl _ (List.getElem_mem hj)
  have step : ∀ k, k ≤ l.length → run f t p = run f t (p + k) := by
    intro k
    induction k with
    | zero => intro _; rfl
    | succ k ih =>
      intro hk
      rw [ih (by omega), Go.Proofs.Jv.run_step f t (p + k) (by rw [List.length_append] at hz; omega) (hg k (by omega))]
      rfl
  rw [step l.length (Nat.le_refl _)]
  refine Go.Proofs.Jv.run_stop f t _ (fun hlt => ?_)
  have hx := sx_app h
  cases hr' : r with
  | nil =>
    rw [hr'] at hx
    have := sx_size hx
    simp at this; omega
  | cons c r' =>
    rw [hr'] at hx
    obtain ⟨-, b, -⟩ := sx_next hx
    rw [b]
    exact hr c (by rw [hr']; rfl)
theorem sub_sx {t : ByteArray} {p : Nat} {l r : List UInt8} (h : t.data.toList.drop p = l ++ r) : sub t p (p + l.length) = ⟨l.toArray⟩ := by
  unfold sub
  apply ByteArray.ext
  rw [ByteArray.data_extract]
  apply Array.ext'
  rw [Array.toList_extract, List.extract_eq_take_drop, h, Nat.add_sub_cancel_left, List.take_left]
theorem blank_sx {t : ByteArray} {p : Nat} {c : UInt8} {r : List UInt8} (h : t.data.toList.drop p = c :: r) (hc : isBlank c = false) : blanks t p = p := by
  have := run_sx (f := isBlank) (t := t) (p := p) (l := []) (r := c :: r) h (by simp) (fun x hx => by simp at hx; rw [← hx]; exact hc)
  exact this
theorem blank_end {t : ByteArray} {p : Nat} (h : t.data.toList.drop p = []) : blanks t p = p := by
  have := run_sx (f := isBlank) (t := t) (p := p) (l := []) (r := []) h (by simp) (fun x hx => by simp at hx)
  exact this
/-- What may stand behind a value. -/
def Stp (r : List UInt8) : Prop := ∀ c, r.head? = some c → isLetter c = false ∧ isOfNumber c = false
theorem stp_cons {c : UInt8} {r : List UInt8} (h1 : isLetter c = false) (h2 : isOfNumber c = false) : Stp (c :: r) := fun x hx => by simp at hx; rw [← hx]; exact ⟨h1, h2⟩
theorem stp_nil : Stp [] := fun c h => by simp at h
theorem next_sx {t : ByteArray} {p : Nat} {c : UInt8} {l : List UInt8} (h : t.data.toList.drop p = c :: l) : next t p = .ok c := by
  obtain ⟨a, b, -⟩ := sx_next h
  unfold next; rw [if_pos a, b]
theorem take_sx {t : ByteArray} {p : Nat} {c : UInt8} {l : List UInt8} (h : t.data.toList.drop p = c :: l) : take t p c = .ok (p + 1) := by
  obtain ⟨a, b, -⟩ := sx_next h
  unfold take; rw [if_pos ⟨a, b⟩]
theorem word_sx {t : ByteArray} {p : Nat} {l r : List UInt8} {v : V} (h : t.data.toList.drop p = l ++ r) (hl : ∀ c ∈ l, isLetter c = true) (hs : Stp r) (hv : (l = [110, 117, 108, 108] ∧ v = .null) ∨ (l = [116, 114, 117, 101] ∧ v = .bool true) ∨ (l = [102, 97, 108, 115, 101] ∧ v = .bool false)) : word t p = .ok (v, p + l.length) := by
  have h1 := run_sx h hl (fun c hc => (hs c hc).1)
  have h2 := sub_sx h
  unfold word
  simp only [h1, h2]
  rcases hv with ⟨rfl, rfl⟩ | ⟨rfl, rfl⟩ | ⟨rfl, rfl⟩ <;> rfl
theorem ofNum {c : UInt8} (h : c.toNat = 45 ∨ isDigit c = true) : isOfNumber c = true := by
  unfold isOfNumber
  rcases h with h | h
  · exact decide_eq_true (by omega)
  · unfold isDigit at h
    have := of_decide_eq_true h
    exact decide_eq_true (.inl this)
theorem number_sx {t : ByteArray} {p : Nat} {r : List UInt8} {n : Int} (h : t.data.toList.drop p = itoa n ++ r) (hs : Stp r) (h0 : -maxInt ≤ n) (h1 : n ≤ maxInt) : number t p = .ok (.int n, p + (itoa n).length) := by
  have e1 := run_sx h (fun c hc => ofNum (itoa_ofNumber n c hc)) (fun c hc => (hs c hc).2)
  have e2 := sub_sx h
  have e3 : numOf ⟨(itoa n).toArray⟩ = some n := by
    unfold numOf maxInt at *
    rw [show (⟨(itoa n).toArray⟩ : ByteArray).data.toList = itoa n from rfl, parse_itoa n (by omega) (by omega)]
    simp only
    rw [if_pos ⟨h0, h1⟩]
  unfold number
  simp only [e1, e2, isNumber_itoa n, if_true, e3]
theorem bsGo_in (less : Nat → Bool) (k N : Nat) (h1 : ∀ t, t < k → less t = true) (h2 : ∀ t, k ≤ t → t < N → less t = false) : ∀ (f lo hi : Nat), hi - lo ≤ f → lo ≤ k → k ≤ hi → hi ≤ N → bsGo less f lo hi = k := by
  intro f
  induction f with
  | zero => intro lo hi a b c _; rw [bsGo]; omega
  | succ f ih =>
    intro lo hi a b c d
    rw [bsGo]
    by_cases hlt : lo < hi
    · rw [if_pos hlt]
      by_cases hm : (lo + hi) / 2 < k
      · rw [h1 _ hm, if_pos rfl]
        exact ih _ _ (by omega) (by omega) c d
      · rw [h2 _ (by omega) (by omega), if_neg (by simp)]
        exact ih _ _ (by omega) b (by omega) (by omega)
    · rw [if_neg hlt]; omega
theorem place_end {ks : List ByteArray} {k : ByteArray} (h : ∀ x ∈ ks, Op.bytesLess x.data.toList k.data.toList = true) : place ks k = ks.length := by
  unfold place
  refine bsGo_in _ ks.length ks.length (fun t ht => ?_) (fun t h1 h2 => by omega) _ _ _ (by omega) (by omega) (by omega) (Nat.le_refl _)
  rw [List.getD_eq_getElem?_getD, List.getElem?_eq_getElem ht]
  exact h _ (List.getElem_mem ht)
def Rising (ks : List ByteArray) : Prop := ks.Pairwise (fun a b => Op.bytesLess a.data.toList b.data.toList = true)
/-- A value that may be read, so deep. -/
def Gd : Nat → V → Prop
  | 0, .list _ => False
  | 0, .obj _ _ => False
  | _, .null => True
  | _, .bool _ => True
  | _, .int n => -maxInt ≤ n ∧ n ≤ maxInt
  | _, .text s => validD s.data.toList = true
  | d + 1, .list l => l.length ≤ 64 ∧ ∀ v ∈ l, Gd d v
  | d + 1, .obj ks l => ks.length = l.length ∧ l.length ≤ 64 ∧ Rising ks ∧ (∀ k ∈ ks, validD k.data.toList = true) ∧ ∀ v ∈ l, Gd d v
/-- How a printed value begins. -/
theorem itoa_head (n : Int) : ∃ c r, itoa n = c :: r ∧ (isDigit c || c == 45) = true := by
  cases h : itoa n with
  | nil => exact absurd h (itoa_ne n)
  | cons c r =>
    refine ⟨c, r, rfl, ?_⟩
    rcases itoa_ofNumber n c (by rw [h]; simp) with hc | hc
    · have : c = 45 := UInt8.toNat_inj.1 hc
      rw [this]; decide
    · rw [hc]; rfl
theorem digit_not {c : UInt8} (h : (isDigit c || c == 45) = true) : isLetter c = false ∧ isBlank c = false ∧ c ≠ 93 ∧ c ≠ 125 ∧ c ≠ 44 := by
  have hc : (48 ≤ c.toNat ∧ c.toNat ≤ 57) ∨ c.toNat = 45 := by
    rcases Bool.or_eq_true_iff.1 h with h | h
    · left; unfold isDigit at h; exact of_decide_eq_true h
    · right; rw [beq_iff_eq.1 h]; rfl
  have n : ∀ k : UInt8, ¬ ((48 ≤ k.toNat ∧ k.toNat ≤ 57) ∨ k.toNat = 45) → c ≠ k := fun k hk e => hk (e ▸ hc)
  exact ⟨decide_eq_false (by omega), decide_eq_false (by omega), n 93 (by decide), n 125 (by decide), n 44 (by decide)⟩
theorem pr_head (v : V) : ∃ c r, pr v = c :: r ∧ isBlank c = false ∧ c ≠ 93 ∧ c ≠ 125 ∧ c ≠ 44 := by
  cases v with
  | null => exact ⟨110, [117, 108, 108], by rw [pr], by decide, by decide, by decide, by decide⟩
  | bool b =>
    cases b with
    | true => exact ⟨116, [114, 117, 101], by rw [pr], by decide, by decide, by decide, by decide⟩
    | false => exact ⟨102, [97, 108, 115, 101], by rw [pr], by decide, by decide, by decide, by decide⟩
  | int n =>
    obtain ⟨c, r, h, hd⟩ := itoa_head n
    obtain ⟨-, h2, h3, h4, h5⟩ := digit_not hd
    exact ⟨c, r, by rw [pr, h], h2, h3, h4, h5⟩
  | text s => exact ⟨34, qBytes s.data.toList ++ [34], by rw [pr]; rfl, by decide, by decide, by decide, by decide⟩
  | list l => exact ⟨91, prL false l ++ [93], by rw [pr], by decide, by decide, by decide, by decide⟩
  | obj ks l => exact ⟨123, prO false ks l ++ [125], by rw [pr], by decide, by decide, by decide, by decide⟩
/-- 'more', where another one comes. -/
theorem more_sx {t : ByteArray} {q : Nat} {e c : UInt8} {n : Nat} {b : Bool} {r : List UInt8} (hb : b = decide (0 < n)) (h : t.data.toList.drop q = comma b ++ c :: r) (hc : isBlank c = false) (hce : c ≠ e) (he : e ≠ 44) (hn : n ≠ 64) : more t q e n = .ok (true, q + (comma b).length) := by
  by_cases h0 : 0 < n
  · have : b = true := by rw [hb]; exact decide_eq_true h0
    subst this
    have h' : t.data.toList.drop q = 44 :: c :: r := h
    obtain ⟨-, -, h2⟩ := sx_next h'
    unfold more
    rw [blank_sx h' (by decide), next_sx h']
    simp only [R.bind]
    rw [if_neg (Ne.symm he), if_neg (by omega), take_sx h']
    simp only
    rw [blank_sx h2 hc, next_sx h2]
    simp only
    rw [if_neg hn]
    rfl
  · have : b = false := by rw [hb]; exact decide_eq_false h0
    subst this
    have h' : t.data.toList.drop q = c :: r := h
    unfold more
    rw [blank_sx h' hc, next_sx h']
    simp only [R.bind]
    rw [if_neg hce, if_pos (by omega)]
    rfl
theorem more_end {t : ByteArray} {q : Nat} {e : UInt8} {n : Nat} {r : List UInt8} (h : t.data.toList.drop q = e :: r) (he : isBlank e = false) : more t q e n = .ok (false, q + 1) := by
  unfold more
  rw [blank_sx h he, next_sx h]
  simp only [R.bind, if_true]
theorem stp_tail (_b : Bool) (l : List V) (e : UInt8) (h1 : isLetter e = false) (h2 : isOfNumber e = false) (r : List UInt8) : Stp (prL true l ++ e :: r) := by
  cases l with
  | nil => exact stp_cons h1 h2
  | cons v l => rw [prL]; exact stp_cons (by decide) (by decide)
theorem stp_tailO (ks : List ByteArray) (l : List V) (h : ks.length = l.length) (r : List UInt8) : Stp (prO true ks l ++ 125 :: r) := by
  cases l with
  | nil => rw [prO]; exact stp_cons (by decide) (by decide)
  | cons v l =>
    cases ks with
    | nil => simp at h
    | cons k ks => rw [prO]; exact stp_cons (by decide) (by decide)
theorem list_sx {t : ByteArray} {val : Nat → R (V × Nat)} : ∀ (l had : List V) (f q : Nat) (r : List UInt8), (∀ v ∈ l, ∀ p r, t.data.toList.drop p = pr v ++ r → Stp r → val p = .ok (v, p + (pr v).length)) → had.length + l.length ≤ 64 → l.length < f →
    t.data.toList.drop q = prL (decide (0 < had.length)) l ++ 93 :: r → listFrom t val f q had = .ok (.list (had ++ l), q + (prL (decide (0 < had.length)) l).length + 1) := by
  intro l
  induction l with
  | nil =>
    intro had f q r _ _ hf h
    obtain ⟨f, rfl⟩ : ∃ g, f = g + 1 := ⟨f - 1, by omega⟩
    rw [prL] at h ⊢
    rw [listFrom, more_end (by simpa using h) (by decide)]
    simp [R.bind]
  | cons v l ih =>
    intro had f q r hv hl hf h
    obtain ⟨f, rfl⟩ : ∃ g, f = g + 1 := ⟨f - 1, by simp at hf; omega⟩
    rw [prL] at h ⊢
    obtain ⟨c, rr, hpr, hc1, hc2, hc3, hc4⟩ := pr_head v
    simp only [List.length_cons] at hl hf
    have hm := more_sx (t := t) (q := q) (e := 93) (c := c) (n := had.length) (b := decide (0 < had.length)) (r := rr ++ (prL true l ++ 93 :: r)) rfl (by rw [h, hpr]; simp) hc1 hc2 (by decide) (by omega)
    rw [listFrom, hm]
    simp only [R.bind]
    rw [if_neg (by simp)]
    have h2 : t.data.toList.drop (q + (comma (decide (0 < had.length))).length) = pr v ++ (prL true l ++ 93 :: r) := sx_app (by rw [h]; simp)
    rw [hv v (by simp) _ _ h2 (stp_tail true l 93 (by decide) (by decide) r)]
    simp only
    have h3 := sx_app h2
    have hd : decide (0 < (had ++ [v]).length) = true := decide_eq_true (by simp)
    rw [ih (had ++ [v]) f _ r (fun x hx => hv x (by simp [hx])) (by simp; omega) (by omega) (by rw [hd]; exact h3), hd]
    simp
    omega
theorem key_sx {t : ByteArray} {q : Nat} {k : ByteArray} {ks : List ByteArray} {c : UInt8} {r : List UInt8} (hv : validD k.data.toList = true) (hk : ∀ x ∈ ks, Op.bytesLess x.data.toList k.data.toList = true) (h : t.data.toList.drop q = qText k ++ 58 :: c :: r) (hc : isBlank c = false) : key t q ks = .ok (k, q + (qText k).length + 1) := by
  have h' : t.data.toList.drop q = 34 :: (qBytes k.data.toList ++ [34] ++ 58 :: c :: r) := by rw [h]; simp [qText]
  have h2 := sx_app h
  obtain ⟨-, -, h3⟩ := sx_next h2
  unfold key
  rw [next_sx h']
  simp only [R.bind]
  rw [if_neg (by simp), quoted_q hv h]
  simp only
  rw [place_end hk, if_neg (by simp), blank_sx h2 (by decide), take_sx h2]
  simp only
  rw [blank_sx h3 hc]
theorem insert_end {α : Type} (l : List α) (x : α) : insertAt l l.length x = l ++ [x] := by simp [insertAt]
theorem obj_sx {t : ByteArray} {val : Nat → R (V × Nat)} : ∀ (l : List V) (ks : List ByteArray) (had : List V) (hk : List ByteArray) (f q : Nat) (r : List UInt8), ks.length = l.length → hk.length = had.length → Rising (hk ++ ks) → (∀ k ∈ ks, validD k.data.toList = true) → (∀ v ∈ l, ∀ p r, t.data.toList.drop p = pr v ++ r → Stp r → val p = .ok (v, p + (pr v).length)) → had.length + l.length ≤ 64 → l.length < f →
    t.data.toList.drop q = prO (decide (0 < had.length)) ks l ++ 125 :: r → objFrom t val f q hk had = .ok (.obj (hk ++ ks) (had ++ l), q + (prO (decide (0 < had.length)) ks l).length + 1) := by
  intro l
  induction l with
  | nil =>
    intro ks had hk f q r hkl _ _ _ _ _ hf h
    obtain rfl := List.eq_nil_of_length_eq_zero hkl
    obtain ⟨f, rfl⟩ : ∃ g, f = g + 1 := ⟨f - 1, by omega⟩
    rw [prO] at h ⊢
    rw [objFrom, more_end (by simpa using h) (by decide)]
    simp [R.bind]
  | cons v l ih =>
    intro ks had hk f q r hkl hkh hri hva hv hl hf h
    cases ks with
    | nil => simp at hkl
    | cons k ks =>
      obtain ⟨f, rfl⟩ : ∃ g, f = g + 1 := ⟨f - 1, by simp at hf; omega⟩
      rw [prO] at h ⊢
      obtain ⟨c, rr, hpr, hc1, -, -, -⟩ := pr_head v
      simp only [List.length_cons] at hl hf hkl
      have hm := more_sx (t := t) (q := q) (e := 125) (c := 34) (n := had.length) (b := decide (0 < had.length)) (r := qBytes k.data.toList ++ [34] ++ [58] ++ pr v ++ prO true ks l ++ 125 :: r) rfl (by rw [h]; simp [qText]) (by decide) (by decide) (by decide) (by omega)
      rw [objFrom, hm]
      simp only [R.bind]
      rw [if_neg (by simp)]
      have h2 : t.data.toList.drop (q + (comma (decide (0 < had.length))).length) = qText k ++ 58 :: (pr v ++ (prO true ks l ++ 125 :: r)) := sx_app (by rw [h]; simp)
      have hlt : ∀ x ∈ hk, Op.bytesLess x.data.toList k.data.toList = true := fun x hx => (List.pairwise_append.1 hri).2.2 x hx k (by simp)
      rw [key_sx (c := c) (r := rr ++ (prO true ks l ++ 125 :: r)) (hva k (by simp)) hlt (by rw [h2, hpr]; simp) hc1]
      simp only
      have h3 : t.data.toList.drop (q + (comma (decide (0 < had.length))).length + (qText k).length + 1) = pr v ++ (prO true ks l ++ 125 :: r) := by
        have := sx_app h2
        obtain ⟨-, -, h⟩ := sx_next this
        exact h
      rw [hv v (by simp) _ _ h3 (stp_tailO ks l (by omega) r)]
      simp only
      have h4 := sx_app h3
      have hd : decide (0 < (had ++ [v]).length) = true := decide_eq_true (by simp)
      rw [place_end hlt, insert_end, hkh, insert_end]
      rw [ih ks (had ++ [v]) (hk ++ [k]) f _ r (by omega) (by simp [hkh]) (by simpa using hri) (fun x hx => hva x (by simp [hx])) (fun x hx => hv x (by simp [hx])) (by simp; omega) (by omega) (by rw [hd]; exact h4), hd]
      simp
      omega
def Sc : V → Prop
  | .null => True
  | .bool _ => True
  | .int n => -maxInt ≤ n ∧ n ≤ maxInt
  | .text s => validD s.data.toList = true
  | .list _ => False
  | .obj _ _ => False
theorem value_scalar {t : ByteArray} {p : Nat} {r : List UInt8} {v : V} (d : Nat) (hv : Sc v) (h : t.data.toList.drop p = pr v ++ r) (hs : Stp r) : value t d p = .ok (v, p + (pr v).length) := by
  cases v with
  | null =>
    rw [pr] at h ⊢
    have h' : t.data.toList.drop p = 110 :: ([117, 108, 108] ++ r) := h
    have hw := word_sx (v := .null) h (by decide) hs (.inl ⟨rfl, rfl⟩)
    cases d <;> (rw [value, next_sx h']; simp only [R.bind]; rw [if_pos (by decide), hw])
  | bool b =>
    cases b with
    | true =>
      rw [pr] at h ⊢
      have h' : t.data.toList.drop p = 116 :: ([114, 117, 101] ++ r) := h
      have hw := word_sx (v := .bool true) h (by decide) hs (.inr (.inl ⟨rfl, rfl⟩))
      cases d <;> (rw [value, next_sx h']; simp only [R.bind]; rw [if_pos (by decide), hw])
    | false =>
      rw [pr] at h ⊢
      have h' : t.data.toList.drop p = 102 :: ([97, 108, 115, 101] ++ r) := h
      have hw := word_sx (v := .bool false) h (by decide) hs (.inr (.inr ⟨rfl, rfl⟩))
      cases d <;> (rw [value, next_sx h']; simp only [R.bind]; rw [if_pos (by decide), hw])
  | int n =>
    rw [pr] at h ⊢
    obtain ⟨c, m, hm, hd⟩ := itoa_head n
    have h' : t.data.toList.drop p = c :: (m ++ r) := by rw [h, hm]; rfl
    have hw := number_sx h hs hv.1 hv.2
    cases d <;> (rw [value, next_sx h']; simp only [R.bind]; rw [if_neg (by rw [(digit_not hd).1]; simp), if_pos hd, hw])
  | text s =>
    rw [pr] at h ⊢
    have h' : t.data.toList.drop p = 34 :: (qBytes s.data.toList ++ [34] ++ r) := by rw [h]; simp [qText]
    cases d <;> (rw [value, next_sx h']; simp only [R.bind]; rw [if_neg (by decide), if_neg (by decide), if_pos trivial, quoted_q hv h])
  | list l => exact hv.elim
  | obj ks l => exact hv.elim
/-- What is printed is read as itself. -/
theorem value_sx (t : ByteArray) : ∀ (d : Nat) (v : V), Gd d v → ∀ p r, t.data.toList.drop p = pr v ++ r → Stp r → value t d p = .ok (v, p + (pr v).length) := by
  intro d
  induction d with
  | zero =>
    intro v hg p r h hs
    refine value_scalar 0 ?_ h hs
    cases v with
    | null => exact trivial
    | bool b => exact trivial
    | int n => exact hg
    | text s => exact hg
    | list l => exact hg.elim
    | obj ks l => exact hg.elim
  | succ d ih =>
    intro v hg p r h hs
    cases v with
    | null => exact value_scalar _ trivial h hs
    | bool b => exact value_scalar _ trivial h hs
    | int n => exact value_scalar (v := .int n) _ hg h hs
    | text s => exact value_scalar (v := .text s) _ hg h hs
    | list l =>
      obtain ⟨h1, h2⟩ := hg
      rw [pr] at h ⊢
      have h' : t.data.toList.drop p = 91 :: (prL false l ++ 93 :: r) := by rw [h]; simp
      obtain ⟨-, -, h3⟩ := sx_next h'
      rw [value, next_sx h']
      simp only [R.bind]
      rw [if_neg (by decide), if_neg (by decide), if_neg (by decide), if_pos trivial]
      rw [list_sx l [] 66 (p + 1) r (fun v hv p r a b => ih v (h2 v hv) p r a b) (by simpa using h1) (by omega) (by simpa using h3)]
      simp
      omega
    | obj ks l =>
      obtain ⟨h0, h1, h2, h3, h4⟩ := hg
      rw [pr] at h ⊢
      have h' : t.data.toList.drop p = 123 :: (prO false ks l ++ 125 :: r) := by rw [h]; simp
      obtain ⟨-, -, h5⟩ := sx_next h'
      rw [value, next_sx h']
      simp only [R.bind]
      rw [if_neg (by decide), if_neg (by decide), if_neg (by decide), if_neg (by decide), if_pos trivial]
      rw [obj_sx l ks [] [] 66 (p + 1) r h0 rfl (by simpa using h2) h3 (fun v hv p r a b => ih v (h4 v hv) p r a b) (by simpa using h1) (by omega) (by simpa using h5)]
      simp
      omega
theorem parse_pr {v : V} (hg : Gd 10 v) (hl : (pr v).length ≤ 4096) : parse ⟨(pr v).toArray⟩ = .ok v := by
  have hz : (⟨(pr v).toArray⟩ : ByteArray).size = (pr v).length := by simp [ByteArray.size]
  have h : (⟨(pr v).toArray⟩ : ByteArray).data.toList.drop 0 = pr v ++ [] := by simp
  have hv := value_sx ⟨(pr v).toArray⟩ 10 v hg 0 [] h stp_nil
  obtain ⟨c, r, hpr, hb, -⟩ := pr_head v
  have hbl : blanks ⟨(pr v).toArray⟩ 0 = 0 := blank_sx (c := c) (r := r) (by rw [h, hpr]; simp) hb
  have he := sx_app h
  unfold parse wholeText
  rw [if_neg (by rw [hz]; omega), hbl, hv]
  simp only [R.bind]
  rw [blank_end he, hz, if_neg (by omega)]
end Go.Jv
