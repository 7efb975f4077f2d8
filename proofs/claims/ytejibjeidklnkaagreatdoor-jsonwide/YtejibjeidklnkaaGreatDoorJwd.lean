/-
  Blanks between tokens tell nothing: a value's text with blanks is read as the value. Nothing of the program.
-/
import Derived.Test.YtejibjeidklnkaaGreatDoorJrt
namespace Go.Jv
open Go.Lib
/-- Blanks alone. -/
def Bl (b : List UInt8) : Prop := ∀ c ∈ b, isBlank c = true
/-- Between two items: blanks, behind the first one a comma with blanks on either side. -/
def Sep : Bool → List UInt8 → Prop
  | false, s => Bl s
  | true, s => ∃ b c, Bl b ∧ Bl c ∧ s = b ++ 44 :: c
mutual
/-- A text of a value, with blanks between its tokens. -/
inductive Wd : Nat → V → List UInt8 → Prop
  | sc (d : Nat) (v : V) (h : Sc v) : Wd d v (pr v)
  | list (d : Nat) (l : List V) (x : List UInt8) (h : Wl d false l x) (hl : l.length ≤ 64) : Wd (d + 1) (.list l) (91 :: x)
  | obj (d : Nat) (ks : List ByteArray) (l : List V) (x : List UInt8) (h : Wo d false ks l x) (hk : ks.length = l.length) (hl : l.length ≤ 64) (hr : Rising ks) (hv : ∀ k ∈ ks, validD k.data.toList = true) : Wd (d + 1) (.obj ks l) (123 :: x)
inductive Wl : Nat → Bool → List V → List UInt8 → Prop
  | nil (d : Nat) (had : Bool) (b : List UInt8) (h : Bl b) : Wl d had [] (b ++ [93])
  | cons (d : Nat) (had : Bool) (v : V) (l : List V) (s i x : List UInt8) (hs : Sep had s) (hi : Wd d v i) (hx : Wl d true l x) : Wl d had (v :: l) (s ++ (i ++ x))
inductive Wo : Nat → Bool → List ByteArray → List V → List UInt8 → Prop
  | nil (d : Nat) (had : Bool) (b : List UInt8) (h : Bl b) : Wo d had [] [] (b ++ [125])
  | cons (d : Nat) (had : Bool) (k : ByteArray) (ks : List ByteArray) (v : V) (l : List V) (s b c i x : List UInt8) (hs : Sep had s) (hb : Bl b) (hc : Bl c) (hi : Wd d v i) (hx : Wo d true ks l x) : Wo d had (k :: ks) (v :: l) (s ++ (qText k ++ (b ++ (58 :: (c ++ (i ++ x))))))
end
theorem blank_run {t : ByteArray} {p : Nat} {b r : List UInt8} (h : t.data.toList.drop p = b ++ r) (hb : Bl b) (hr : ∀ c, r.head? = some c → isBlank c = false) : blanks t p = p + b.length := run_sx h hb hr
theorem bl_not {c : UInt8} (h : isBlank c = true) : isLetter c = false ∧ isOfNumber c = false := by
  unfold isBlank at h
  have := of_decide_eq_true h
  exact ⟨decide_eq_false (by omega), decide_eq_false (by omega)⟩
theorem stp_bl {b : List UInt8} {c : UInt8} {r : List UInt8} (hb : Bl b) (h1 : isLetter c = false) (h2 : isOfNumber c = false) : Stp (b ++ c :: r) := by
  cases b with
  | nil => exact stp_cons h1 h2
  | cons x b => exact stp_cons (bl_not (hb x (by simp))).1 (bl_not (hb x (by simp))).2
/-- How such a text begins. -/
theorem wd_head {d : Nat} {v : V} {i : List UInt8} (h : Wd d v i) : ∃ c r, i = c :: r ∧ isBlank c = false ∧ c ≠ 93 ∧ c ≠ 125 ∧ c ≠ 44 := by
  cases h with
  | sc d v h => exact pr_head v
  | list d l x h hl => exact ⟨91, x, rfl, by decide, by decide, by decide, by decide⟩
  | obj d ks l x h hk hl hr hv => exact ⟨123, x, rfl, by decide, by decide, by decide, by decide⟩
theorem sep_stp {s i x : List UInt8} (hs : Sep true s) : Stp (s ++ (i ++ x)) := by
  obtain ⟨b, c, hb, -, rfl⟩ := hs
  rw [List.append_assoc]
  exact stp_bl hb (by decide) (by decide)
theorem wl_stp {d : Nat} {l : List V} {x r : List UInt8} (h : Wl d true l x) : Stp (x ++ r) := by
  cases h with
  | nil d had b hb => rw [List.append_assoc]; exact stp_bl hb (by decide) (by decide)
  | cons d had v l s i x hs hi hx => rw [List.append_assoc, List.append_assoc]; exact sep_stp hs
theorem wo_stp {d : Nat} {ks : List ByteArray} {l : List V} {x r : List UInt8} (h : Wo d true ks l x) : Stp (x ++ r) := by
  cases h with
  | nil d had b hb => rw [List.append_assoc]; exact stp_bl hb (by decide) (by decide)
  | cons d had k ks v l s b c i x hs hb hc hi hx => rw [List.append_assoc, List.append_assoc]; exact sep_stp hs
/-- 'more', where another one comes. -/
theorem more_wd {t : ByteArray} {q : Nat} {e c : UInt8} {n : Nat} {s r : List UInt8} (hs : Sep (decide (0 < n)) s) (h : t.data.toList.drop q = s ++ c :: r) (hc : isBlank c = false) (hce : c ≠ e) (he : e ≠ 44) (hn : n ≠ 64) : more t q e n = .ok (true, q + s.length) := by
  by_cases h0 : 0 < n
  · rw [decide_eq_true h0] at hs
    obtain ⟨b, d, hb, hd, rfl⟩ := hs
    have h' : t.data.toList.drop q = b ++ 44 :: (d ++ c :: r) := by rw [h]; simp
    have hq := blank_run h' hb (fun x hx => by simp at hx; rw [← hx]; decide)
    have h2 := sx_app h'
    obtain ⟨-, -, h3⟩ := sx_next h2
    have hq2 := blank_run h3 hd (fun x hx => by simp at hx; rw [← hx]; exact hc)
    have h4 := sx_app h3
    unfold more
    rw [hq, next_sx h2]
    simp only [R.bind]
    rw [if_neg (Ne.symm he), if_neg (by omega), take_sx h2]
    simp only
    rw [hq2, next_sx h4]
    simp only
    rw [if_neg hn]
    simp
    omega
  · rw [decide_eq_false h0] at hs
    have hq := blank_run h hs (fun x hx => by simp at hx; rw [← hx]; exact hc)
    have h2 := sx_app h
    unfold more
    rw [hq, next_sx h2]
    simp only [R.bind]
    rw [if_neg hce, if_pos (by omega)]
theorem more_wend {t : ByteArray} {q : Nat} {e : UInt8} {n : Nat} {b r : List UInt8} (hb : Bl b) (h : t.data.toList.drop q = b ++ e :: r) (he : isBlank e = false) : more t q e n = .ok (false, q + b.length + 1) := by
  have hq := blank_run h hb (fun x hx => by simp at hx; rw [← hx]; exact he)
  have h2 := sx_app h
  unfold more
  rw [hq, next_sx h2]
  simp only [R.bind, if_true]
theorem list_wd {t : ByteArray} {d : Nat} {val : Nat → R (V × Nat)} (hval : ∀ v i, Wd d v i → ∀ p r, t.data.toList.drop p = i ++ r → Stp r → val p = .ok (v, p + i.length)) : ∀ (l had : List V) (f q : Nat) (x r : List UInt8), Wl d (decide (0 < had.length)) l x → had.length + l.length ≤ 64 → l.length < f →
    t.data.toList.drop q = x ++ r → listFrom t val f q had = .ok (.list (had ++ l), q + x.length) := by
  intro l
  induction l with
  | nil =>
    intro had f q x r hx _ hf h
    obtain ⟨f, rfl⟩ : ∃ g, f = g + 1 := ⟨f - 1, by omega⟩
    generalize decide (0 < had.length) = hd at hx
    cases hx with
    | nil d had' b hb =>
      rw [listFrom, more_wend (r := r) hb (by rw [h]; simp) (by decide)]
      simp [R.bind]
      omega
  | cons v l ih =>
    intro had f q x r hx hl hf h
    obtain ⟨f, rfl⟩ : ∃ g, f = g + 1 := ⟨f - 1, by simp at hf; omega⟩
    simp only [List.length_cons] at hl hf
    generalize hde : decide (0 < had.length) = hd at hx
    cases hx with
    | cons d had' v l s i x hs hi hx =>
      obtain ⟨c, rr, rfl, hc1, hc2, hc3, hc4⟩ := wd_head hi
      rw [← hde] at hs
      have hm := more_wd (t := t) (q := q) (e := 93) (c := c) (n := had.length) (s := s) (r := rr ++ (x ++ r)) hs (by rw [h]; simp) hc1 hc2 (by decide) (by omega)
      rw [listFrom, hm]
      simp only [R.bind]
      rw [if_neg (by simp)]
      have h2 : t.data.toList.drop (q + s.length) = (c :: rr) ++ (x ++ r) := sx_app (by rw [h]; simp)
      rw [hval v _ hi _ _ h2 (wl_stp hx)]
      simp only
      have h3 := sx_app h2
      have hd2 : decide (0 < (had ++ [v]).length) = true := decide_eq_true (by simp)
      rw [ih (had ++ [v]) f _ x r (by rw [hd2]; exact hx) (by simp; omega) (by omega) h3]
      simp
      omega
theorem key_wd {t : ByteArray} {q : Nat} {k : ByteArray} {ks : List ByteArray} {c : UInt8} {b d r : List UInt8} (hv : validD k.data.toList = true) (hk : ∀ x ∈ ks, Op.bytesLess x.data.toList k.data.toList = true) (hb : Bl b) (hd : Bl d) (h : t.data.toList.drop q = qText k ++ (b ++ 58 :: (d ++ c :: r))) (hc : isBlank c = false) : key t q ks = .ok (k, q + (qText k).length + b.length + 1 + d.length) := by
  have h' : t.data.toList.drop q = 34 :: (qBytes k.data.toList ++ [34] ++ (b ++ 58 :: (d ++ c :: r))) := by rw [h]; simp [qText]
  have h2 := sx_app h
  have hq := blank_run h2 hb (fun x hx => by simp at hx; rw [← hx]; decide)
  have h3 := sx_app h2
  obtain ⟨-, -, h4⟩ := sx_next h3
  have hq2 := blank_run h4 hd (fun x hx => by simp at hx; rw [← hx]; exact hc)
  unfold key
  rw [next_sx h']
  simp only [R.bind]
  rw [if_neg (by simp), quoted_q hv h]
  simp only
  rw [place_end hk, if_neg (by simp), hq, take_sx h3]
  simp only
  rw [hq2]
theorem obj_wd {t : ByteArray} {d : Nat} {val : Nat → R (V × Nat)} (hval : ∀ v i, Wd d v i → ∀ p r, t.data.toList.drop p = i ++ r → Stp r → val p = .ok (v, p + i.length)) : ∀ (l : List V) (ks : List ByteArray) (had : List V) (hk : List ByteArray) (f q : Nat) (x r : List UInt8), Wo d (decide (0 < had.length)) ks l x → hk.length = had.length → Rising (hk ++ ks) → (∀ k ∈ ks, validD k.data.toList = true) → had.length + l.length ≤ 64 → l.length < f →
    t.data.toList.drop q = x ++ r → objFrom t val f q hk had = .ok (.obj (hk ++ ks) (had ++ l), q + x.length) := by
  intro l
  induction l with
  | nil =>
    intro ks had hk f q x r hx _ _ _ _ hf h
    obtain ⟨f, rfl⟩ : ∃ g, f = g + 1 := ⟨f - 1, by omega⟩
    generalize decide (0 < had.length) = hd at hx
    cases hx with
    | nil d had' b hb =>
      rw [objFrom, more_wend (r := r) hb (by rw [h]; simp) (by decide)]
      simp [R.bind]
      omega
  | cons v l ih =>
    intro ks had hk f q x r hx hkh hri hva hl hf h
    obtain ⟨f, rfl⟩ : ∃ g, f = g + 1 := ⟨f - 1, by simp at hf; omega⟩
    simp only [List.length_cons] at hl hf
    generalize hde : decide (0 < had.length) = hd at hx
    cases hx with
    | cons d had' k ks v l s b c' i x hs hb hc' hi hx =>
      obtain ⟨c, rr, rfl, hc1, -, -, -⟩ := wd_head hi
      rw [← hde] at hs
      have hm := more_wd (t := t) (q := q) (e := 125) (c := 34) (n := had.length) (s := s) (r := qBytes k.data.toList ++ [34] ++ (b ++ (58 :: (c' ++ ((c :: rr) ++ x)))) ++ r) hs (by rw [h]; simp [qText]) (by decide) (by decide) (by decide) (by omega)
      rw [objFrom, hm]
      simp only [R.bind]
      rw [if_neg (by simp)]
      have h2 : t.data.toList.drop (q + s.length) = qText k ++ (b ++ 58 :: (c' ++ c :: (rr ++ (x ++ r)))) := sx_app (by rw [h]; simp)
      have hlt : ∀ x ∈ hk, Op.bytesLess x.data.toList k.data.toList = true := fun x hx => (List.pairwise_append.1 hri).2.2 x hx k (by simp)
      rw [key_wd (hva k (by simp)) hlt hb hc' h2 hc1]
      simp only
      have h3 : t.data.toList.drop (q + s.length + (qText k).length + b.length + 1 + c'.length) = (c :: rr) ++ (x ++ r) := by
        have g1 := sx_app h2
        have g2 := sx_app g1
        obtain ⟨-, -, g3⟩ := sx_next g2
        exact sx_app g3
      rw [hval v _ hi _ _ h3 (wo_stp hx)]
      simp only
      have h4 := sx_app h3
      have hd2 : decide (0 < (had ++ [v]).length) = true := decide_eq_true (by simp)
      rw [place_end hlt, insert_end, hkh, insert_end]
      rw [ih ks (had ++ [v]) (hk ++ [k]) f _ x r (by rw [hd2]; exact hx) (by simp [hkh]) (by simpa using hri) (fun x hx => hva x (by simp [hx])) (by simp; omega) (by omega) h4]
      simp
      omega
theorem value_wd (t : ByteArray) : ∀ (d : Nat) (v : V) (i : List UInt8), Wd d v i → ∀ p r, t.data.toList.drop p = i ++ r → Stp r → value t d p = .ok (v, p + i.length) := by
  intro d
  induction d with
  | zero =>
    intro v i hw p r h hs
    cases hw with
    | sc d v hv => exact value_scalar 0 hv h hs
  | succ d ih =>
    intro v i hw p r h hs
    cases hw with
    | sc d v hv => exact value_scalar _ hv h hs
    | list d l x hx hl =>
      have h' : t.data.toList.drop p = 91 :: (x ++ r) := h
      obtain ⟨-, -, h3⟩ := sx_next h'
      rw [value, next_sx h']
      simp only [R.bind]
      rw [if_neg (by decide), if_neg (by decide), if_neg (by decide), if_pos trivial]
      rw [list_wd ih l [] 66 (p + 1) x r (by simpa using hx) (by simpa using hl) (by omega) h3]
      simp
      omega
    | obj d ks l x hx hk hl hr hv =>
      have h' : t.data.toList.drop p = 123 :: (x ++ r) := h
      obtain ⟨-, -, h3⟩ := sx_next h'
      rw [value, next_sx h']
      simp only [R.bind]
      rw [if_neg (by decide), if_neg (by decide), if_neg (by decide), if_neg (by decide), if_pos trivial]
      rw [obj_wd ih l ks [] [] 66 (p + 1) x r (by simpa using hx) rfl (by simpa using hr) hv (by simpa using hl) (by omega) h3]
      simp
      omega
/-- Blanks ahead of a text, within it and behind it tell nothing. -/
theorem parse_wd {v : V} {b i c : List UInt8} (hw : Wd 10 v i) (hb : Bl b) (hc : Bl c) (hl : (b ++ (i ++ c)).length ≤ 4096) : parse ⟨(b ++ (i ++ c)).toArray⟩ = .ok v := by
  have hz : (⟨(b ++ (i ++ c)).toArray⟩ : ByteArray).size = (b ++ (i ++ c)).length := by simp [ByteArray.size]
  have h : (⟨(b ++ (i ++ c)).toArray⟩ : ByteArray).data.toList.drop 0 = b ++ (i ++ c) := by simp
  obtain ⟨x, rr, hi, hx, -⟩ := wd_head hw
  have hq := blank_run h hb (fun y hy => by rw [hi] at hy; simp at hy; rw [← hy]; exact hx)
  have h2 := sx_app h
  have hs : Stp c := by
    cases c with
    | nil => exact stp_nil
    | cons y c => exact stp_cons (bl_not (hc y (by simp))).1 (bl_not (hc y (by simp))).2
  have hv := value_wd _ 10 v i hw _ _ h2 hs
  have h3 : (⟨(b ++ (i ++ c)).toArray⟩ : ByteArray).data.toList.drop (0 + b.length + i.length) = c ++ [] := by rw [List.append_nil]; exact sx_app h2
  have he := blank_run h3 hc (fun y hy => by simp at hy)
  unfold parse wholeText
  rw [if_neg (by rw [hz]; omega), hq, hv]
  simp only [R.bind]
  rw [he, hz, if_neg (by simp only [List.length_append]; omega)]
end Go.Jv
