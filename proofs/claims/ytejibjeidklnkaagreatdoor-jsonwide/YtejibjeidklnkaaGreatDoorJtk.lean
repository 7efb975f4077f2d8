/-
  Tokens: rows of texts that are a value's, with blanks between. Nothing of the program.
-/
import Derived.Test.YtejibjeidklnkaaGreatDoorJwd
namespace Go.Jv
open Go.Lib
/-- Tokens one behind the other, ahead of the n-th the blanks bs n. -/
def inter (bs : Nat → List UInt8) : Nat → List ByteArray → List UInt8
  | _, [] => []
  | n, x :: r => bs n ++ (x.data.toList ++ inter bs (n + 1) r)
def flat (l : List ByteArray) : List UInt8 := l.flatMap fun x => x.data.toList
theorem flat_app (a b : List ByteArray) : flat (a ++ b) = flat a ++ flat b := by simp [flat]
theorem inter_app (bs : Nat → List UInt8) : ∀ (a b : List ByteArray) (n : Nat), inter bs n (a ++ b) = inter bs n a ++ inter bs (n + a.length) b
  | [], b, n => by simp [inter]
  | x :: a, b, n => by
    rw [List.cons_append, inter, inter, inter_app bs a b (n + 1), List.length_cons, show n + (a.length + 1) = n + 1 + a.length by omega]
    simp
theorem inter_none (n : Nat) (l : List ByteArray) : inter (fun _ => []) n l = flat l := by
  induction l generalizing n with
  | nil => rfl
  | cons x r ih => rw [inter, ih]; simp [flat]
/-- How many bytes blanks make it, at most two each. -/
theorem inter_len (bs : Nat → List UInt8) (hb : ∀ j, (bs j).length ≤ 2) : ∀ (l : List ByteArray) (n : Nat), (inter bs n l).length ≤ (flat l).length + 2 * l.length
  | [], n => by simp [inter]
  | x :: r, n => by
    have h1 := inter_len bs hb r (n + 1)
    have h2 := hb n
    rw [inter, List.length_append, List.length_append, show flat (x :: r) = x.data.toList ++ flat r from rfl, List.length_append, List.length_cons]
    omega
/-- The tokens of a value. -/
structure TW (d : Nat) (v : V) (l : List ByteArray) : Prop where
  fl : flat l = pr v
  wd : ∀ bs : Nat → List UInt8, (∀ j, Bl (bs j)) → ∀ n, ∃ i, inter bs n l = bs n ++ i ∧ Wd d v i
theorem TW.up {d : Nat} {v : V} {l : List ByteArray} (h : TW d v l) (hs : Sc v) (d' : Nat) (x : ByteArray) (hl : l = [x]) : TW d' v l := by
  subst hl
  refine ⟨h.fl, fun bs hb n => ⟨pr v, ?_, .sc d' v hs⟩⟩
  have := h.fl
  simp [flat] at this
  simp [inter, this]
theorem tw_sc (d : Nat) (v : V) (hs : Sc v) : TW d v [⟨(pr v).toArray⟩] :=
  ⟨by simp [flat], fun bs _ n => ⟨pr v, by simp [inter], .sc d v hs⟩⟩
def tok (c : UInt8) : ByteArray := ⟨#[c]⟩
/-- The tokens of a list's first items, and what may follow. -/
structure LB (d : Nat) (vs : List V) (body : List ByteArray) : Prop where
  fl : flat body = prL false vs
  wl : ∀ bs : Nat → List UInt8, (∀ j, Bl (bs j)) → ∀ n ws y, Wl d (decide (0 < vs.length)) ws y → Wl d false (vs ++ ws) (inter bs n body ++ y)
theorem lb_nil (d : Nat) : LB d [] [] := ⟨by simp [flat, prL], fun bs _ n ws y h => by simpa [inter] using h⟩
theorem prL_snoc2 (l : List V) (x : V) : prL false (l ++ [x]) = prL false l ++ (comma (decide (0 < l.length)) ++ pr x) := by
  have ht : ∀ (l : List V), prL true (l ++ [x]) = prL true l ++ ([44] ++ pr x) := by
    intro l
    induction l with
    | nil => simp [prL, comma]
    | cons y r ih => simp only [List.cons_append, prL, ih]; simp
  cases l with
  | nil => simp [prL, comma]
  | cons y r => simp only [List.cons_append, prL, ht r]; simp [comma]
theorem LB.next {d : Nat} {vs : List V} {v : V} {body l : List ByteArray} (h : LB d vs body) (hl : TW d v l) : LB d (vs ++ [v]) (body ++ ((if 0 < vs.length then [tok 44] else []) ++ l)) := by
  refine ⟨?_, fun bs hb n ws y hy => ?_⟩
  · rw [flat_app, flat_app, h.fl, hl.fl, prL_snoc2]
    by_cases h0 : 0 < vs.length
    · simp [h0, flat, tok, comma]
    · simp [h0, flat, comma]
  · have hd : decide (0 < (vs ++ [v]).length) = true := decide_eq_true (by simp)
    rw [hd] at hy
    rw [inter_app, List.append_assoc, List.append_assoc]
    by_cases h0 : 0 < vs.length
    · obtain ⟨i, hi, hw⟩ := hl.wd bs hb (n + body.length + 1)
      refine h.wl bs hb n (v :: ws) _ ?_
      rw [decide_eq_true h0, if_pos h0, List.singleton_append, inter, hi]
      have := Wl.cons d true v ws (bs (n + body.length) ++ 44 :: bs (n + body.length + 1)) i y ⟨_, _, hb _, hb _, rfl⟩ hw hy
      simpa [tok] using this
    · obtain ⟨i, hi, hw⟩ := hl.wd bs hb (n + body.length)
      refine h.wl bs hb n (v :: ws) _ ?_
      rw [decide_eq_false h0, if_neg h0, List.nil_append, hi]
      have := Wl.cons d false v ws (bs (n + body.length)) i y (hb _) hw hy
      simpa using this
theorem LB.tw {d : Nat} {vs : List V} {body : List ByteArray} (h : LB d vs body) (hl : vs.length ≤ 64) : TW (d + 1) (.list vs) (tok 91 :: (body ++ [tok 93])) := by
  refine ⟨?_, fun bs hb n => ⟨91 :: (inter bs (n + 1) body ++ (bs (n + 1 + body.length) ++ [93])), ?_, .list d vs _ ?_ hl⟩⟩
  · rw [pr, show flat (tok 91 :: (body ++ [tok 93])) = 91 :: flat (body ++ [tok 93]) from rfl, flat_app, h.fl]
    simp [flat, tok]
  · rw [inter, inter_app]
    simp [inter, tok]
  · have := h.wl bs hb (n + 1) [] (bs (n + 1 + body.length) ++ [93]) (.nil d _ _ (hb _))
    simpa using this
/-- The tokens of an object's first members, and what may follow. -/
structure OB (d : Nat) (ks : List ByteArray) (vs : List V) (body : List ByteArray) : Prop where
  len : ks.length = vs.length
  fl : flat body = prO false ks vs
  wo : ∀ bs : Nat → List UInt8, (∀ j, Bl (bs j)) → ∀ n js ws y, Wo d (decide (0 < vs.length)) js ws y → Wo d false (ks ++ js) (vs ++ ws) (inter bs n body ++ y)
theorem ob_nil (d : Nat) : OB d [] [] [] := ⟨rfl, by simp [flat, prO], fun bs _ n js ws y h => by simpa [inter] using h⟩
theorem prO_snoc (ks : List ByteArray) (l : List V) (k : ByteArray) (x : V) (h : ks.length = l.length) : prO false (ks ++ [k]) (l ++ [x]) = prO false ks l ++ (comma (decide (0 < l.length)) ++ (qText k ++ ([58] ++ pr x))) := by
  have ht : ∀ (ks : List ByteArray) (l : List V), ks.length = l.length → prO true (ks ++ [k]) (l ++ [x]) = prO true ks l ++ ([44] ++ (qText k ++ ([58] ++ pr x))) := by
    intro ks
    induction ks with
    | nil => intro l hl; obtain rfl := List.eq_nil_of_length_eq_zero hl.symm; simp [prO, comma]
    | cons j ks ih =>
      intro l hl
      cases l with
      | nil => simp at hl
      | cons y l => simp only [List.cons_append, prO, ih l (by simpa using hl)]; simp
  cases ks with
  | nil => obtain rfl := List.eq_nil_of_length_eq_zero h.symm; simp [prO, comma]
  | cons j ks =>
    cases l with
    | nil => simp at h
    | cons y l => simp only [List.cons_append, prO, ht ks l (by simpa using h)]; simp [comma]
theorem OB.next {d : Nat} {ks : List ByteArray} {vs : List V} {k : ByteArray} {v : V} {body l : List ByteArray} (h : OB d ks vs body) (hl : TW d v l) : OB d (ks ++ [k]) (vs ++ [v]) (body ++ ((if 0 < vs.length then [tok 44] else []) ++ (⟨(qText k).toArray⟩ :: tok 58 :: l))) := by
  refine ⟨by simp [h.len], ?_, fun bs hb n js ws y hy => ?_⟩
  · rw [flat_app, flat_app, h.fl, prO_snoc _ _ _ _ h.len, show flat ((⟨(qText k).toArray⟩ : ByteArray) :: tok 58 :: l) = qText k ++ ([58] ++ flat l) by simp [flat, tok], hl.fl]
    by_cases h0 : 0 < vs.length
    · simp [h0, flat, tok, comma]
    · simp [h0, flat, comma]
  · have hd : decide (0 < (vs ++ [v]).length) = true := decide_eq_true (by simp)
    rw [hd] at hy
    rw [inter_app, List.append_assoc, List.append_assoc, List.append_assoc]
    by_cases h0 : 0 < vs.length
    · obtain ⟨i, hi, hw⟩ := hl.wd bs hb (n + body.length + 1 + 1 + 1)
      refine h.wo bs hb n (k :: js) (v :: ws) _ ?_
      rw [decide_eq_true h0, if_pos h0, List.singleton_append, inter, inter, inter, hi]
      have := Wo.cons d true k js v ws (bs (n + body.length) ++ 44 :: bs (n + body.length + 1)) (bs (n + body.length + 1 + 1)) (bs (n + body.length + 1 + 1 + 1)) i y ⟨_, _, hb _, hb _, rfl⟩ (hb _) (hb _) hw hy
      simpa [tok] using this
    · obtain ⟨i, hi, hw⟩ := hl.wd bs hb (n + body.length + 1 + 1)
      refine h.wo bs hb n (k :: js) (v :: ws) _ ?_
      rw [decide_eq_false h0, if_neg h0, List.nil_append, inter, inter, hi]
      have := Wo.cons d false k js v ws (bs (n + body.length)) (bs (n + body.length + 1)) (bs (n + body.length + 1 + 1)) i y (hb _) (hb _) (hb _) hw hy
      simpa [tok] using this
theorem OB.tw {d : Nat} {ks : List ByteArray} {vs : List V} {body : List ByteArray} (h : OB d ks vs body) (hl : vs.length ≤ 64) (hr : Rising ks) (hv : ∀ k ∈ ks, validD k.data.toList = true) : TW (d + 1) (.obj ks vs) (tok 123 :: (body ++ [tok 125])) := by
  refine ⟨?_, fun bs hb n => ⟨123 :: (inter bs (n + 1) body ++ (bs (n + 1 + body.length) ++ [125])), ?_, .obj d ks vs _ ?_ h.len hl hr hv⟩⟩
  · rw [pr, show flat (tok 123 :: (body ++ [tok 125])) = 123 :: flat (body ++ [tok 125]) from rfl, flat_app, h.fl]
    simp [flat, tok]
  · rw [inter, inter_app]
    simp [inter, tok]
  · have := h.wo bs hb (n + 1) [] [] (bs (n + 1 + body.length) ++ [125]) (.nil d _ _ (hb _))
    simpa using this
/-- JsonWide's heart: with whatever blanks, it is read as the value whose text has none. -/
theorem tw_parse {v : V} {l : List ByteArray} (h : TW 10 v l) (bs : Nat → List UInt8) (hb : ∀ j, Bl (bs j)) (c : List UInt8) (hc : Bl c) (n : Nat) (hl : (inter bs n l ++ c).length ≤ 4096) : parse ⟨(inter bs n l ++ c).toArray⟩ = .ok v := by
  obtain ⟨i, hi, hw⟩ := h.wd bs hb n
  rw [hi, List.append_assoc] at hl ⊢
  exact parse_wd hw (hb n) hc hl
end Go.Jv
