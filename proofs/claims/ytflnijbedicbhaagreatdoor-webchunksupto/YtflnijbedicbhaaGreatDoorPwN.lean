/-
  Laid together by packg.py of Na Nb Nc Nd Ne Nf Ng.
-/
import Derived.Test.YtflnijbedicbhaaGreatDoorPwZ
namespace Go.Wb
/-- All of these bytes belong to the message. -/
inductive Rds : Msg → List UInt8 → Msg → Prop
  | nil (m : Msg) : Rds m [] m
  | cons {m m' : Msg} {c : UInt8} {r : List UInt8} : over m = false → Rds (bite m c) r m' → Rds m (c :: r) m'
theorem rds_app {m m1 m2 : Msg} {a b : List UInt8} (h : Rds m a m1) (g : Rds m1 b m2) : Rds m (a ++ b) m2 := by
  induction h with
  | nil => exact g
  | cons ho _ ih => exact .cons ho (ih g)
theorem rds_one {m : Msg} (h : over m = false) (c : UInt8) : Rds m [c] (bite m c) := .cons h (.nil _)
theorem rds_rd {m m' : Msg} {l : List UInt8} (h : Rds m l m') (r : List UInt8) : rd m (l ++ r) = ((rd m' r).1, l.length + (rd m' r).2) := by
  induction h with
  | nil m => simp
  | @cons m m' c l ho _ ih =>
    have e : rd m (c :: l ++ r) = ((rd (bite m c) (l ++ r)).1, (rd (bite m c) (l ++ r)).2 + 1) := by
      show (if over m then _ else _) = _
      rw [if_neg (by rw [ho]; exact Bool.false_ne_true)]
      rfl
    rw [e, ih, List.length_cons]
    simp only [Prod.mk.injEq, true_and]
    omega
theorem rds_fd {m m' : Msg} {l : List UInt8} (h : Rds m l m') (hl : l ≠ []) (r : List UInt8) : fd m (l ++ r) = if whole m' then (req m' :: (fd (goOn m') r).1, (fd (goOn m') r).2) else fd m' r := by
  induction h with
  | nil m => exact absurd rfl hl
  | @cons m m' c l ho hr ih =>
    rw [List.cons_append, fd_cons, if_neg (by rw [ho]; exact Bool.false_ne_true)]
    cases hr with
    | nil => rfl
    | @cons _ _ c2 l2 ho2 _ =>
      have hw : whole (bite m c) = false := by unfold whole; rw [ho2]; rfl
      rw [if_neg (by rw [hw]; exact Bool.false_ne_true)]
      exact ih (by simp)
theorem rds_on {m m' : Msg} {l : List UInt8} (h : Rds m l m') (hw : whole m' = false) (r : List UInt8) : fd m (l ++ r) = fd m' r := by
  by_cases hl : l = []
  · subst hl; cases h; rfl
  · rw [rds_fd h hl, if_neg (by rw [hw]; exact Bool.false_ne_true)]
/-- Of a beginning nothing is told. -/
theorem rds_part {m m' : Msg} {l : List UInt8} (h : Rds m l m') : ∀ k, k < l.length → ∃ m1, Rds m (l.take k) m1 ∧ over m1 = false := by
  induction h with
  | nil m => intro k hk; cases hk
  | @cons m m' c l ho _ ih =>
    intro k hk
    cases k with
    | zero => exact ⟨m, .nil m, ho⟩
    | succ k =>
      obtain ⟨m1, h1, h2⟩ := ih k (by simpa using hk)
      exact ⟨m1, .cons ho h1, h2⟩
/-- By reckoning. -/
def runB (m : Msg) : List UInt8 → Option Msg
  | [] => some m
  | c :: r => if over m then none else runB (bite m c) r
theorem rds_of {m m' : Msg} {l : List UInt8} (h : runB m l = some m') : Rds m l m' := by
  induction l generalizing m with
  | nil => cases h; exact .nil _
  | cons c r ih =>
    unfold runB at h
    split at h
    · cases h
    · rename_i ho
      exact .cons (by simpa using ho) (ih h)
theorem bite_of {m : Msg} {c : UInt8} {o : Out} (hl : m.left = 0) (hb : (m.at_ : Int) ≠ m.bound) (h : takeDo m.tk m c = o) : bite m c = after o := by
  unfold bite step
  rw [if_neg (by omega), if_neg hb, h]
  rfl
theorem bite_left {m : Msg} (c : UInt8) (hl : 0 < m.left) : bite m c = { m with body := m.body ++ [c], left := m.left - 1, at_ := m.at_ + 1 } := by
  unfold bite
  rw [if_pos hl]
theorem over_tk {m : Msg} (h : m.tk ≠ .no) : over m = false := by
  unfold over
  have : (m.tk == Tk.no) = false := by simpa using h
  rw [this]; rfl
/-- A step on. -/
theorem rds_step {m m1 m' : Msg} {c : UInt8} {r : List UInt8} (ht : m.tk ≠ .no) (hb : bite m c = m1) (h : Rds m1 r m') : Rds m (c :: r) m' := .cons (over_tk ht) (hb ▸ h)
/-- The bytes of a body. -/
theorem rds_fill {m : Msg} (l : List UInt8) (h : l.length ≤ m.left) : Rds m l { m with body := m.body ++ l, left := m.left - l.length, at_ := m.at_ + l.length } := by
  induction l generalizing m with
  | nil => simp; exact .nil m
  | cons c r ih =>
    rw [List.length_cons] at h
    have hp : 0 < m.left := by omega
    have ho : over m = false := by
      unfold over
      have : (m.left == 0) = false := by simpa using Nat.ne_of_gt hp
      rw [this, Bool.and_false]
    refine .cons ho ?_
    rw [bite_left c hp]
    have := ih (m := { m with body := m.body ++ [c], left := m.left - 1, at_ := m.at_ + 1 }) (by show r.length ≤ m.left - 1; omega)
    simp only [List.append_assoc, List.singleton_append] at this
    rw [List.length_cons, show m.left - (r.length + 1) = m.left - 1 - r.length by omega, show m.at_ + (r.length + 1) = m.at_ + 1 + r.length by omega]
    exact this
end Go.Wb
namespace Go.Wb
/-- In the midst of a head, at a place p, a part having begun at f. -/
def mAt (B : Msg) (t : Tk) (h : Th) (p f : Nat) (w : List UInt8) (k : Nat) (nm : List UInt8) (hs : List (List UInt8 × List UInt8)) : Msg := { B with tk := t, th := h, at_ := p, frm := f, word := w, lines := k, name := nm, headers := hs }
section
variable {B : Msg} (hB : B.left = 0) (hT : B.trailers = false) {k : Nat} {nm : List UInt8} {hs : List (List UInt8 × List UInt8)}
include hB
theorem mAt_bite {t : Tk} {h : Th} {p f : Nat} {w : List UInt8} {c : UInt8} {o : Out} (hb : (p : Int) < B.bound ∨ B.bound < 0) (hd : takeDo t (mAt B t h p f w k nm hs) c = o) : bite (mAt B t h p f w k nm hs) c = after o := by
  refine bite_of (m := mAt B t h p f w k nm hs) hB ?_ hd
  show (p : Int) ≠ B.bound
  rcases hb with hb | hb <;> omega
include hT
omit hB in
theorem keep_mAt (t : Tk) (h : Th) (p f : Nat) (w : List UInt8) (c : UInt8) : keep (mAt B t h p f w k nm hs) c = mAt B t h p f (w ++ [c]) k nm hs := by
  unfold keep
  rw [if_neg (by show ¬ B.trailers = true; rw [hT]; exact Bool.false_ne_true)]
  rfl
/-- A name goes on. -/
theorem rds_name (n : List UInt8) : ∀ (p f : Nat) (w : List UInt8), n.all tok = true → ((p + n.length : Nat) : Int) ≤ B.bound ∨ B.bound < 0 → Rds (mAt B .inName .no p f w k nm hs) n (mAt B .inName .no (p + n.length) f (w ++ n.map sm) k nm hs) := by
  induction n with
  | nil => intro p f w _ _; simp; exact .nil _
  | cons c r ih =>
    intro p f w ha hb
    rw [List.all_cons, Bool.and_eq_true] at ha
    rw [List.length_cons] at hb
    have hd : takeDo .inName (mAt B .inName .no p f w k nm hs) c = ((.inName, .no), mAt B .inName .no p f (w ++ [sm c]) k nm hs) := by
      show inName _ c = _
      unfold inName
      rw [if_pos ha.1, keep_mAt hT]
    refine rds_step (by show Tk.inName ≠ .no; decide) (mAt_bite hB (by rcases hb with hb | hb; exact .inl (by omega); exact .inr hb) hd) ?_
    have := ih (p + 1) f (w ++ [sm c]) ha.2 (by rcases hb with hb | hb; exact .inl (by omega); exact .inr hb)
    rw [List.length_cons, List.map_cons, show p + (r.length + 1) = p + 1 + r.length by omega, show w ++ sm c :: r.map sm = w ++ [sm c] ++ r.map sm by simp]
    exact this
/-- A value goes on. -/
theorem rds_value (v : List UInt8) : ∀ (p f : Nat) (w : List UInt8), v.all txt = true → (w = [] → ∀ c ∈ v.head?, blank c = false) → ((p + v.length : Nat) : Int) ≤ B.bound ∨ B.bound < 0 → Rds (mAt B .inValue .no p f w k nm hs) v (mAt B .inValue .no (p + v.length) f (w ++ v) k nm hs) := by
  induction v with
  | nil => intro p f w _ _ _; simp; exact .nil _
  | cons c r ih =>
    intro p f w ha hw hb
    rw [List.all_cons, Bool.and_eq_true] at ha
    rw [List.length_cons] at hb
    have h13 : ¬ c.toNat = 13 := fun e => by
      have := ha.1
      unfold txt at this
      rw [e] at this
      revert this; decide
    have hbl : ¬ (blank c && (mAt B .inValue .no p f w k nm hs).word.isEmpty) = true := by
      show ¬ (blank c && w.isEmpty) = true
      cases w with
      | nil => rw [hw rfl c (by simp)]; decide
      | cons _ _ => simp
    have hd : takeDo .inValue (mAt B .inValue .no p f w k nm hs) c = ((.inValue, .no), mAt B .inValue .no p f (w ++ [c]) k nm hs) := by
      show inValue _ c = _
      unfold inValue
      rw [if_neg h13, if_neg hbl, if_pos ha.1, keep_mAt hT]
      rfl
    refine rds_step (by show Tk.inValue ≠ .no; decide) (mAt_bite hB (by rcases hb with hb | hb; exact .inl (by omega); exact .inr hb) hd) ?_
    have := ih (p + 1) f (w ++ [c]) ha.2 (fun e => by simp at e) (by rcases hb with hb | hb; exact .inl (by omega); exact .inr hb)
    rw [List.length_cons, show p + (r.length + 1) = p + 1 + r.length by omega, show w ++ c :: r = w ++ [c] ++ r by simp]
    exact this
omit hB hT in
theorem tok_not13 {c : UInt8} (h : tok c = true) : c.toNat ≠ 13 := fun e => by
  have : c = 13 := UInt8.toNat_inj.1 e
  rw [this] at h; revert h; decide
/-- A header's line. -/
theorem rds_header (n v : List UInt8) (p : Nat) (hn0 : n ≠ []) (hn : n.all tok = true) (hv : v.all txt = true) (hv2 : ∀ c ∈ v.head?, blank c = false) (hv3 : trimR v = v) (hk : k < 32) (hb : ((p + (n.length + v.length + 4) : Nat) : Int) ≤ B.bound ∨ B.bound < 0) :
    Rds (mAt B .atLine .no p p [] k nm hs) (n ++ [58, 32] ++ v ++ [13, 10]) (mAt B .atLine .no (p + (n.length + v.length + 4)) (p + (n.length + v.length + 4)) [] (k + 1) (n.map sm) (hs ++ [(n.map sm, v)])) := by
  obtain ⟨c, r, rfl⟩ := List.exists_cons_of_ne_nil hn0
  rw [List.all_cons, Bool.and_eq_true] at hn
  rw [List.length_cons] at hb ⊢
  have bd : ∀ q : Nat, q < p + (r.length + 1 + v.length + 4) → (q : Int) < B.bound ∨ B.bound < 0 := fun q hq => by
    rcases hb with hb | hb
    · exact .inl (by omega)
    · exact .inr hb
  have h1 : bite (mAt B .atLine .no p p [] k nm hs) c = mAt B .inName .no (p + 1) p [sm c] (k + 1) nm hs := by
    refine mAt_bite hB (bd p (by omega)) (o := ((.inName, .no), mAt B .atLine .no p p [sm c] (k + 1) nm hs)) ?_
    show atLine _ c = _
    unfold atLine
    rw [if_neg (tok_not13 hn.1), if_neg (by show ¬ k = 32; omega)]
    unfold inName
    rw [if_pos hn.1]
    exact congrArg (Prod.mk _) (keep_mAt hT (k := k + 1) .atLine .no p p [] (sm c))
  have h2 := rds_name hB hT (k := k + 1) (nm := nm) (hs := hs) r (p + 1) p [sm c] hn.2 (by rcases hb with hb | hb; exact .inl (by omega); exact .inr hb)
  have e1 : [sm c] ++ r.map sm = (c :: r).map sm := rfl
  rw [e1] at h2
  have h3 : bite (mAt B .inName .no (p + 1 + r.length) p ((c :: r).map sm) (k + 1) nm hs) 58 = mAt B .inValue .no (p + 1 + r.length + 1) (p + 1 + r.length + 1) [] (k + 1) ((c :: r).map sm) hs := by
    refine mAt_bite hB (bd _ (by omega)) (o := part { mAt B .inName .no (p + 1 + r.length) p ((c :: r).map sm) (k + 1) nm hs with name := (c :: r).map sm } .inValue) ?_
    show inName _ 58 = _
    unfold inName
    rw [if_neg (by decide), if_pos ⟨by decide, by show p < p + 1 + r.length; omega⟩]
    rfl
  have h4 : bite (mAt B .inValue .no (p + 1 + r.length + 1) (p + 1 + r.length + 1) [] (k + 1) ((c :: r).map sm) hs) 32 = mAt B .inValue .no (p + 1 + r.length + 2) (p + 1 + r.length + 1) [] (k + 1) ((c :: r).map sm) hs :=
    mAt_bite hB (bd _ (by omega)) (o := ((.inValue, .no), mAt B .inValue .no (p + 1 + r.length + 1) (p + 1 + r.length + 1) [] (k + 1) ((c :: r).map sm) hs)) rfl
  have h5 := rds_value hB hT (k := k + 1) (nm := (c :: r).map sm) (hs := hs) v (p + 1 + r.length + 2) (p + 1 + r.length + 1) [] hv (fun _ => hv2) (by rcases hb with hb | hb; exact .inl (by omega); exact .inr hb)
  rw [List.nil_append] at h5
  have h6 : bite (mAt B .inValue .no (p + 1 + r.length + 2 + v.length) (p + 1 + r.length + 1) v (k + 1) ((c :: r).map sm) hs) 13 = mAt B .lineFeed .headerEnds (p + 1 + r.length + 2 + v.length + 1) (p + 1 + r.length + 1) v (k + 1) ((c :: r).map sm) hs :=
    mAt_bite hB (bd _ (by omega)) (o := ((.lineFeed, .headerEnds), mAt B .inValue .no (p + 1 + r.length + 2 + v.length) (p + 1 + r.length + 1) v (k + 1) ((c :: r).map sm) hs)) rfl
  have h7 : bite (mAt B .lineFeed .headerEnds (p + 1 + r.length + 2 + v.length + 1) (p + 1 + r.length + 1) v (k + 1) ((c :: r).map sm) hs) 10 = mAt B .atLine .no (p + 1 + r.length + 2 + v.length + 2) (p + 1 + r.length + 2 + v.length + 2) [] (k + 1) ((c :: r).map sm) (hs ++ [((c :: r).map sm, v)]) := by
    refine mAt_bite hB (bd _ (by omega)) (o := part { mAt B .lineFeed .headerEnds (p + 1 + r.length + 2 + v.length + 1) (p + 1 + r.length + 1) v (k + 1) ((c :: r).map sm) hs with headers := hs ++ [((c :: r).map sm, v)] } .atLine) ?_
    show lineFeed _ 10 = _
    unfold lineFeed
    rw [if_pos (by decide)]
    show headerEnds _ = _
    unfold headerEnds
    rw [if_neg (by show ¬ B.trailers = true; rw [hT]; exact Bool.false_ne_true)]
    show part _ _ = _
    rw [show trimR (mAt B .lineFeed .headerEnds (p + 1 + r.length + 2 + v.length + 1) (p + 1 + r.length + 1) v (k + 1) ((c :: r).map sm) hs).word = v from hv3]
    rfl
  rw [show p + (r.length + 1 + v.length + 4) = p + 1 + r.length + 2 + v.length + 2 by omega]
  refine rds_step (by show Tk.atLine ≠ .no; decide) h1 ?_
  show Rds _ (r ++ [58, 32] ++ v ++ [13, 10]) _
  rw [show r ++ [58, 32] ++ v ++ [13, 10] = r ++ (58 :: 32 :: (v ++ [13, 10])) by simp]
  exact rds_app h2 (rds_step (by show Tk.inName ≠ .no; decide) h3 (rds_step (by show Tk.inValue ≠ .no; decide) h4 (rds_app h5 (rds_step (by show Tk.inValue ≠ .no; decide) h6 (rds_step (by show Tk.lineFeed ≠ .no; decide) h7 (.nil _))))))
end
end Go.Wb
namespace Go.Wb
section
variable {B : Msg} (hB : B.left = 0) (hT : B.trailers = false) {k : Nat} {nm : List UInt8} {hs : List (List UInt8 × List UInt8)}
include hB hT
/-- A method goes on. -/
theorem rds_method (n : List UInt8) : ∀ (p f : Nat) (w : List UInt8), n.all tok = true → ((p + n.length : Nat) : Int) ≤ B.bound ∨ B.bound < 0 → Rds (mAt B .inMethod .no p f w k nm hs) n (mAt B .inMethod .no (p + n.length) f (w ++ n) k nm hs) := by
  induction n with
  | nil => intro p f w _ _; simp; exact .nil _
  | cons c r ih =>
    intro p f w ha hb
    rw [List.all_cons, Bool.and_eq_true] at ha
    rw [List.length_cons] at hb
    have hd : takeDo .inMethod (mAt B .inMethod .no p f w k nm hs) c = ((.inMethod, .no), mAt B .inMethod .no p f (w ++ [c]) k nm hs) := by
      show inMethod _ c = _
      unfold inMethod
      rw [if_pos ha.1, keep_mAt hT]
    refine rds_step (by show Tk.inMethod ≠ .no; decide) (mAt_bite hB (by rcases hb with hb | hb; exact .inl (by omega); exact .inr hb) hd) ?_
    have := ih (p + 1) f (w ++ [c]) ha.2 (by rcases hb with hb | hb; exact .inl (by omega); exact .inr hb)
    rw [List.length_cons, show p + (r.length + 1) = p + 1 + r.length by omega, show w ++ c :: r = w ++ [c] ++ r by simp]
    exact this
/-- A target goes on. -/
theorem rds_target (n : List UInt8) : ∀ (p f : Nat) (w : List UInt8), n.all tgt = true → (w = [] → ∀ c ∈ n.head?, c = 47) → w.length + n.length ≤ 512 → ((p + n.length : Nat) : Int) ≤ B.bound ∨ B.bound < 0 → Rds (mAt B .inTarget .no p f w k nm hs) n (mAt B .inTarget .no (p + n.length) f (w ++ n) k nm hs) := by
  induction n with
  | nil => intro p f w _ _ _ _; simp; exact .nil _
  | cons c r ih =>
    intro p f w ha hw hl hb
    rw [List.all_cons, Bool.and_eq_true] at ha
    rw [List.length_cons] at hb hl
    have h32 : ¬ c.toNat = 32 := fun e => by
      have e2 : c = 32 := UInt8.toNat_inj.1 e
      have := ha.1
      rw [e2] at this; revert this; decide
    have hd : takeDo .inTarget (mAt B .inTarget .no p f w k nm hs) c = ((.inTarget, .no), mAt B .inTarget .no p f (w ++ [c]) k nm hs) := by
      show inTarget _ c = _
      unfold inTarget
      rw [if_neg (fun h => by
        have h1 : w.length = 0 := h.1
        have h2 := hw (List.eq_nil_of_length_eq_zero h1) c (by simp)
        rw [h2] at h; exact h.2 (by decide)), if_neg h32, if_neg (by rw [ha.1]; decide), if_neg (by show ¬ w.length = 512; omega), keep_mAt hT]
      rfl
    refine rds_step (by show Tk.inTarget ≠ .no; decide) (mAt_bite hB (by rcases hb with hb | hb; exact .inl (by omega); exact .inr hb) hd) ?_
    have := ih (p + 1) f (w ++ [c]) ha.2 (fun e => by simp at e) (by rw [List.length_append]; simp only [List.length_cons, List.length_nil]; omega) (by rcases hb with hb | hb; exact .inl (by omega); exact .inr hb)
    rw [List.length_cons, show p + (r.length + 1) = p + 1 + r.length by omega, show w ++ c :: r = w ++ [c] ++ r by simp]
    exact this
/-- 'HTTP/1.1'. -/
theorem rds_version (p f : Nat) (t : Th) (hb : ((p + 8 : Nat) : Int) ≤ B.bound ∨ B.bound < 0) : Rds (mAt B .inVersion t p f [] k nm hs) wNewer (after (let o := thenDo t (mAt { B with newer := true } .inVersion t (p + 7) f wNewer k nm hs); o)) := by
  have one : ∀ (q : Nat) (w : List UInt8) (c : UInt8), q < p + 8 → form.getD w.length 0 = c ∨ form.getD w.length 0 = 48 ∧ dig c = true → (w ++ [c]).length < 8 → bite (mAt B .inVersion t q f w k nm hs) c = mAt B .inVersion t (q + 1) f (w ++ [c]) k nm hs := fun q w c hq hc hl => by
    refine mAt_bite hB (by rcases hb with hb | hb; exact .inl (by omega); exact .inr hb) (o := ((.inVersion, t), mAt B .inVersion t q f (w ++ [c]) k nm hs)) ?_
    show inVersion _ c = _
    unfold inVersion
    rw [if_neg (fun h => by
      have h1 : c ≠ form.getD w.length 0 := h.1
      rcases hc with hc | ⟨hc1, hc2⟩
      · exact h1 hc.symm
      · have h2 : form.getD w.length 0 ≠ 48 ∨ dig c = false := h.2
        rcases h2 with h2 | h2
        · exact h2 hc1
        · rw [hc2] at h2; cases h2), keep_mAt hT, if_pos (show (mAt B .inVersion t q f (w ++ [c]) k nm hs).word.length < 8 from hl)]
    rfl
  have last : bite (mAt B .inVersion t (p + 7) f [72, 84, 84, 80, 47, 49, 46] k nm hs) 49 = after (thenDo t (mAt { B with newer := true } .inVersion t (p + 7) f wNewer k nm hs)) := by
    refine mAt_bite hB (by rcases hb with hb | hb; exact .inl (by omega); exact .inr hb) ?_
    show inVersion _ 49 = _
    unfold inVersion
    rw [if_neg (fun h => by
      have h1 : (49 : UInt8) ≠ 48 := by decide
      have h2 : form.getD 7 0 ≠ 48 ∨ dig 49 = false := h.2
      rcases h2 with h2 | h2
      · exact h2 (by decide)
      · revert h2; decide), keep_mAt hT, if_neg (show ¬ (mAt B .inVersion t (p + 7) f ([72, 84, 84, 80, 47, 49, 46] ++ [49]) k nm hs).word.length < 8 from (by decide : ¬ ([72, 84, 84, 80, 47, 49, 46, 49] : List UInt8).length < 8)), if_neg (show ¬ ((mAt B .inVersion t (p + 7) f ([72, 84, 84, 80, 47, 49, 46] ++ [49]) k nm hs).word ≠ wOlder ∧ (mAt B .inVersion t (p + 7) f ([72, 84, 84, 80, 47, 49, 46] ++ [49]) k nm hs).word ≠ wNewer) from fun h => h.2 rfl)]
    rfl
  exact rds_step (by show Tk.inVersion ≠ .no; decide) (one p [] 72 (by omega) (.inl (by decide)) (by decide)) (rds_step (by show Tk.inVersion ≠ .no; decide) (one (p + 1) [72] 84 (by omega) (.inl (by decide)) (by decide)) (rds_step (by show Tk.inVersion ≠ .no; decide) (one (p + 2) [72, 84] 84 (by omega) (.inl (by decide)) (by decide)) (rds_step (by show Tk.inVersion ≠ .no; decide) (one (p + 3) [72, 84, 84] 80 (by omega) (.inl (by decide)) (by decide)) (rds_step (by show Tk.inVersion ≠ .no; decide) (one (p + 4) [72, 84, 84, 80] 47 (by omega) (.inl (by decide)) (by decide)) (rds_step (by show Tk.inVersion ≠ .no; decide) (one (p + 5) [72, 84, 84, 80, 47] 49 (by omega) (.inr (by decide)) (by decide)) (rds_step (by show Tk.inVersion ≠ .no; decide) (one (p + 6) [72, 84, 84, 80, 47, 49] 46 (by omega) (.inl (by decide)) (by decide)) (rds_step (by show Tk.inVersion ≠ .no; decide) last (.nil _))))))))
/-- Lines of headers. -/
def linesT (L : List (List UInt8 × List UInt8)) : List UInt8 := L.flatMap fun h => h.1 ++ [58, 32] ++ h.2 ++ [13, 10]
/-- A header that may be written so. -/
structure GoodH (h : List UInt8 × List UInt8) : Prop where
  n0 : h.1 ≠ []
  n : h.1.all tok = true
  v : h.2.all txt = true
  v0 : ∀ c ∈ h.2.head?, blank c = false
  tr : trimR h.2 = h.2
theorem rds_headers (L : List (List UInt8 × List UInt8)) : ∀ (p k : Nat) (nm : List UInt8) (hs : List (List UInt8 × List UInt8)), (∀ h ∈ L, GoodH h) → k + L.length ≤ 32 → ((p + (linesT L).length : Nat) : Int) ≤ B.bound ∨ B.bound < 0 →
    ∃ nm', Rds (mAt B .atLine .no p p [] k nm hs) (linesT L) (mAt B .atLine .no (p + (linesT L).length) (p + (linesT L).length) [] (k + L.length) nm' (hs ++ L.map fun h => (h.1.map sm, h.2))) := by
  induction L with
  | nil => intro p k nm hs _ _ _; exact ⟨nm, by simp [linesT]; exact .nil _⟩
  | cons h r ih =>
    intro p k nm hs hg hk hb
    have e : linesT (h :: r) = (h.1 ++ [58, 32] ++ h.2 ++ [13, 10]) ++ linesT r := rfl
    have el : (h.1 ++ [58, 32] ++ h.2 ++ [13, 10]).length = h.1.length + h.2.length + 4 := by simp only [List.length_append, List.length_cons, List.length_nil]; omega
    rw [List.length_cons] at hk
    rw [e, List.length_append, el] at hb
    have g := hg h (by simp)
    have h1 := rds_header hB hT (k := k) (nm := nm) (hs := hs) h.1 h.2 p g.n0 g.n g.v g.v0 g.tr (by omega) (by rcases hb with hb | hb; exact .inl (by omega); exact .inr hb)
    obtain ⟨nm', h2⟩ := ih (p + (h.1.length + h.2.length + 4)) (k + 1) (h.1.map sm) (hs ++ [(h.1.map sm, h.2)]) (fun x hx => hg x (List.mem_cons_of_mem _ hx)) (by omega) (by rcases hb with hb | hb; exact .inl (by omega); exact .inr hb)
    refine ⟨nm', ?_⟩
    rw [e, List.length_append, el, List.length_cons, List.map_cons]
    have := rds_app h1 h2
    rw [show p + (h.1.length + h.2.length + 4) + (linesT r).length = p + (h.1.length + h.2.length + 4 + (linesT r).length) by omega, show k + 1 + r.length = k + (r.length + 1) by omega, show hs ++ [(h.1.map sm, h.2)] ++ r.map (fun h => (h.1.map sm, h.2)) = hs ++ (h.1.map sm, h.2) :: r.map (fun h => (h.1.map sm, h.2)) by simp] at this
    exact this
/-- The head's end. -/
theorem rds_end (p : Nat) (hb : ((p + 2 : Nat) : Int) ≤ B.bound ∨ B.bound < 0) : Rds (mAt B .atLine .no p p [] k nm hs) [13, 10] (after (headEnds (mAt { B with bound := -1 } .lineFeed .emptyLineEnds (p + 1) p [] k [] hs))) := by
  have h1 : bite (mAt B .atLine .no p p [] k nm hs) 13 = mAt B .lineFeed .emptyLineEnds (p + 1) p [] k nm hs :=
    mAt_bite hB (by rcases hb with hb | hb; exact .inl (by omega); exact .inr hb) (o := ((.lineFeed, .emptyLineEnds), mAt B .atLine .no p p [] k nm hs)) rfl
  have h2 : bite (mAt B .lineFeed .emptyLineEnds (p + 1) p [] k nm hs) 10 = after (headEnds (mAt { B with bound := -1 } .lineFeed .emptyLineEnds (p + 1) p [] k [] hs)) := by
    refine mAt_bite hB (by rcases hb with hb | hb; exact .inl (by omega); exact .inr hb) ?_
    show lineFeed _ 10 = _
    unfold lineFeed
    rw [if_pos (by decide)]
    show emptyLineEnds _ = _
    unfold emptyLineEnds
    rw [if_neg (by show ¬ B.trailers = true; rw [hT]; exact Bool.false_ne_true)]
    rfl
  exact rds_step (by show Tk.atLine ≠ .no; decide) h1 (rds_step (by show Tk.lineFeed ≠ .no; decide) h2 (.nil _))
end
end Go.Wb
namespace Go.Wb
/-- A request behind its first line. -/
def reqB (p : Nat) (meth tg : List UInt8) : Msg := { newReq p with bound := p + 2048, method := meth, target := tg, newer := true }
theorem rds_reqline (p : Nat) (meth tg : List UInt8) (hm0 : meth ≠ []) (hm : meth.all tok = true) (ht0 : ∃ r, tg = 47 :: r) (ht : tg.all tgt = true) (htl : tg.length ≤ 512) (hl : meth.length + tg.length + 12 ≤ 2048) :
    Rds (newReq p) (meth ++ [32] ++ tg ++ [32] ++ wNewer ++ [13, 10]) (mAt (reqB p meth tg) .atLine .no (p + (meth.length + tg.length + 12)) (p + (meth.length + tg.length + 12)) [] 0 [] []) := by
  obtain ⟨c, r, rfl⟩ := List.exists_cons_of_ne_nil hm0
  rw [List.all_cons, Bool.and_eq_true] at hm
  rw [List.length_cons] at hl ⊢
  have h1 : bite (newReq p) c = mAt { newReq p with bound := p + 2048 } .inMethod .no (p + 1) 0 [c] 0 [] [] := by
    refine bite_of (m := newReq p) rfl (by show (p : Int) ≠ -1; omega) (o := ((.inMethod, .no), mAt { newReq p with bound := p + 2048 } .ahead .no p 0 [c] 0 [] [])) ?_
    show ahead _ c = _
    unfold ahead
    rw [if_neg (tok_not13 hm.1)]
    unfold inMethod
    rw [if_pos hm.1]
    rfl
  have h2 := rds_method (B := { newReq p with bound := p + 2048 }) rfl rfl (k := 0) (nm := []) (hs := []) r (p + 1) 0 [c] hm.2 (.inl (by show _ ≤ (p : Int) + 2048; omega))
  have h3 : bite (mAt { newReq p with bound := p + 2048 } .inMethod .no (p + 1 + r.length) 0 ([c] ++ r) 0 [] []) 32 = mAt { newReq p with bound := p + 2048, method := c :: r } .inTarget .no (p + 1 + r.length + 1) (p + 1 + r.length + 1) [] 0 [] [] := by
    refine mAt_bite (B := { newReq p with bound := p + 2048 }) rfl (.inl (by show _ < (p : Int) + 2048; omega)) (o := part { mAt { newReq p with bound := p + 2048 } .inMethod .no (p + 1 + r.length) 0 ([c] ++ r) 0 [] [] with method := c :: r } .inTarget) ?_
    show inMethod _ 32 = _
    unfold inMethod
    rw [if_neg (by decide), if_pos ⟨by decide, by show 0 < ([c] ++ r).length; simp⟩]
    rfl
  have h4 := rds_target (B := { newReq p with bound := p + 2048, method := c :: r }) rfl rfl (k := 0) (nm := []) (hs := []) tg (p + 1 + r.length + 1) (p + 1 + r.length + 1) [] ht (fun _ => by obtain ⟨x, rfl⟩ := ht0; simp) (by simpa using htl) (.inl (by show _ ≤ (p : Int) + 2048; omega))
  rw [List.nil_append] at h4
  have h5 : bite (mAt { newReq p with bound := p + 2048, method := c :: r } .inTarget .no (p + 1 + r.length + 1 + tg.length) (p + 1 + r.length + 1) tg 0 [] []) 32 = mAt { newReq p with bound := p + 2048, method := c :: r, target := tg } .inVersion .requestLineEnds (p + 1 + r.length + 1 + tg.length + 1) (p + 1 + r.length + 1 + tg.length + 1) [] 0 [] [] := by
    refine mAt_bite (B := { newReq p with bound := p + 2048, method := c :: r }) rfl (.inl (by show _ < (p : Int) + 2048; omega)) (o := ((.inVersion, .requestLineEnds), (part { mAt { newReq p with bound := p + 2048, method := c :: r } .inTarget .no (p + 1 + r.length + 1 + tg.length) (p + 1 + r.length + 1) tg 0 [] [] with target := tg } .inVersion).2)) ?_
    show inTarget _ 32 = _
    unfold inTarget
    rw [if_neg (by
      intro h
      have h1 : tg.length = 0 := h.1
      obtain ⟨x, rfl⟩ := ht0
      cases h1), if_pos (by decide)]
    rfl
  have h6 := rds_version (B := { newReq p with bound := p + 2048, method := c :: r, target := tg }) rfl rfl (k := 0) (nm := []) (hs := []) (p + 1 + r.length + 1 + tg.length + 1) (p + 1 + r.length + 1 + tg.length + 1) .requestLineEnds (.inl (by show _ ≤ (p : Int) + 2048; omega))
  have h7 : bite (mAt (reqB p (c :: r) tg) .lineEnd .headerLine (p + 1 + r.length + 1 + tg.length + 1 + 8) (p + 1 + r.length + 1 + tg.length + 1) wNewer 0 [] []) 13 = mAt (reqB p (c :: r) tg) .lineFeed .headerLine (p + 1 + r.length + 1 + tg.length + 1 + 9) (p + 1 + r.length + 1 + tg.length + 1) wNewer 0 [] [] :=
    mAt_bite (B := reqB p (c :: r) tg) rfl (.inl (by show _ < (p : Int) + 2048; omega)) (o := ((.lineFeed, .headerLine), mAt (reqB p (c :: r) tg) .lineEnd .headerLine (p + 1 + r.length + 1 + tg.length + 1 + 8) (p + 1 + r.length + 1 + tg.length + 1) wNewer 0 [] [])) rfl
  have h8 : bite (mAt (reqB p (c :: r) tg) .lineFeed .headerLine (p + 1 + r.length + 1 + tg.length + 1 + 9) (p + 1 + r.length + 1 + tg.length + 1) wNewer 0 [] []) 10 = mAt (reqB p (c :: r) tg) .atLine .no (p + 1 + r.length + 1 + tg.length + 1 + 10) (p + 1 + r.length + 1 + tg.length + 1 + 10) [] 0 [] [] :=
    mAt_bite (B := reqB p (c :: r) tg) rfl (.inl (by show _ < (p : Int) + 2048; omega)) (o := part (mAt (reqB p (c :: r) tg) .lineFeed .headerLine (p + 1 + r.length + 1 + tg.length + 1 + 9) (p + 1 + r.length + 1 + tg.length + 1) wNewer 0 [] []) .atLine) rfl
  rw [show p + (r.length + 1 + tg.length + 12) = p + 1 + r.length + 1 + tg.length + 1 + 10 by omega]
  show Rds _ (c :: (r ++ [32] ++ tg ++ [32] ++ wNewer ++ [13, 10])) _
  refine rds_step (by show Tk.ahead ≠ .no; decide) h1 ?_
  rw [show r ++ [32] ++ tg ++ [32] ++ wNewer ++ [13, 10] = r ++ (32 :: (tg ++ (32 :: (wNewer ++ [13, 10])))) by simp]
  exact rds_app h2 (rds_step (by show Tk.inMethod ≠ .no; decide) h3 (rds_app h4 (rds_step (by show Tk.inTarget ≠ .no; decide) h5 (rds_app h6 (rds_step (by show Tk.lineEnd ≠ .no; decide) h7 (rds_step (by show Tk.lineFeed ≠ .no; decide) h8 (.nil _)))))))
def helloL : List UInt8 := [71, 69, 84, 32, 47, 97, 32, 72, 84, 84, 80, 47, 49, 46, 49, 13, 10, 72, 111, 115, 116, 58, 32, 120, 13, 10, 13, 10]
/-- The laws' hello, wherever it begins. -/
theorem fd_hello (p : Nat) (r : List UInt8) : fd (newReq p) (helloL ++ r) = (⟨[71, 69, 84], [47, 97], [([104, 111, 115, 116], [120])], [], false⟩ :: (fd (newReq (p + 28)) r).1, (fd (newReq (p + 28)) r).2) := by
  have h1 := rds_reqline p [71, 69, 84] [47, 97] (by decide) (by decide) ⟨_, rfl⟩ (by decide) (by decide) (by decide)
  have h2 := rds_header (B := reqB p [71, 69, 84] [47, 97]) rfl rfl (k := 0) (nm := []) (hs := []) [72, 111, 115, 116] [120] (p + 17) (by decide) (by decide) (by decide) (by decide) (by decide) (by decide) (.inl (by show ((p + 17 + 9 : Nat) : Int) ≤ (p : Int) + 2048; omega))
  have h3 := rds_end (B := reqB p [71, 69, 84] [47, 97]) rfl rfl (k := 1) (nm := [104, 111, 115, 116]) (hs := [([104, 111, 115, 116], [120])]) (p + 26) (.inl (by show ((p + 26 + 2 : Nat) : Int) ≤ (p : Int) + 2048; omega))
  have h := rds_app (rds_app h1 h2) h3
  have e : helloL = [71, 69, 84] ++ [32] ++ [47, 97] ++ [32] ++ wNewer ++ [13, 10] ++ ([72, 111, 115, 116] ++ [58, 32] ++ [120] ++ [13, 10]) ++ [13, 10] := rfl
  rw [e, rds_fd h (by simp)]
  rfl
end Go.Wb
namespace Go.Wb
def chHead : List UInt8 := [80, 79, 83, 84, 32, 47, 99, 32, 72, 84, 84, 80, 47, 49, 46, 49, 13, 10, 104, 111, 115, 116, 58, 120, 13, 10, 84, 114, 97, 110, 115, 102, 101, 114, 45, 69, 110, 99, 111, 100, 105, 110, 103, 58, 32, 67, 104, 117, 110, 107, 101, 100, 13, 10, 13, 10]
/-- What is the same all along the body. -/
def cB : Msg := ⟨.inSize, .no, 0, 0, -1, 0, [], [80, 79, 83, 84], [47, 99], 0, true, 2, [], [(wHost, [120]), (wCoding, [67, 104, 117, 110, 107, 101, 100])], false, false, 6000, 0, 0, [], 0, 0⟩
def mC (t : Tk) (h : Th) (p f z lf : Nat) (bd : List UInt8) : Msg := { cB with tk := t, th := h, at_ := p, frm := f, size := z, left := lf, body := bd }
theorem rds_chHead : Rds (newReq 0) chHead (mC .inSize .no 56 56 0 0 []) := rds_of (by kernel_rfl)
theorem mC_bite {t : Tk} {h : Th} {p f z : Nat} {bd : List UInt8} {c : UInt8} {o : Out} (hd : takeDo t (mC t h p f z 0 bd) c = o) : bite (mC t h p f z 0 bd) c = after o :=
  bite_of (m := mC t h p f z 0 bd) rfl (by show (p : Int) ≠ -1; omega) hd
def szOf (z : Nat) (ds : List UInt8) : Nat := ds.foldl (fun n c => grown 6000 n 16 ((hexd c).getD 0)) z
theorem rds_size (f : Nat) (bd : List UInt8) (ds : List UInt8) : ∀ (p z : Nat), (∀ c ∈ ds, (hexd c).isSome = true) → p + ds.length ≤ f + 64 → Rds (mC .inSize .no p f z 0 bd) ds (mC .inSize .no (p + ds.length) f (szOf z ds) 0 bd) := by
  induction ds with
  | nil => intro p z _ _; exact .nil _
  | cons c r ih =>
    intro p z hx hl
    rw [List.length_cons] at hl
    obtain ⟨d, hd⟩ := Option.isSome_iff_exists.1 (hx c (by simp))
    have h1 : takeDo .inSize (mC .inSize .no p f z 0 bd) c = ((.inSize, .no), mC .inSize .no p f (grown 6000 z 16 d) 0 bd) := by
      show inSize _ c = _
      unfold inSize
      rw [if_neg (by
        unfold tooMuch
        have : (p == f + 64) = false := by simp; omega
        show ¬ (!(c.toNat == 13) && (p == f + 64)) = true
        rw [this, Bool.and_false]; decide), hd]
      rfl
    refine rds_step (by show Tk.inSize ≠ .no; decide) (mC_bite h1) ?_
    have := ih (p + 1) (grown 6000 z 16 d) (fun x hx' => hx x (List.mem_cons_of_mem _ hx')) (by omega)
    have e : szOf z (c :: r) = szOf (grown 6000 z 16 d) r := by unfold szOf; rw [List.foldl_cons, hd]; rfl
    rw [List.length_cons, e, show p + (r.length + 1) = p + 1 + r.length by omega]
    exact this
theorem txt_not13 {c : UInt8} (h : txt c = true) : c.toNat ≠ 13 := fun e => by
  have : c = 13 := UInt8.toNat_inj.1 e
  rw [this] at h; revert h; decide
theorem rds_ext (f z : Nat) (bd : List UInt8) (t : List UInt8) : ∀ (p : Nat), t.all txt = true → p + t.length ≤ f + 64 → Rds (mC .inExt .no p f z 0 bd) t (mC .inExt .no (p + t.length) f z 0 bd) := by
  induction t with
  | nil => intro p _ _; exact .nil _
  | cons c r ih =>
    intro p ha hl
    rw [List.all_cons, Bool.and_eq_true] at ha
    rw [List.length_cons] at hl
    have h1 : takeDo .inExt (mC .inExt .no p f z 0 bd) c = ((.inExt, .no), mC .inExt .no p f z 0 bd) := by
      show inExt _ c = _
      unfold inExt
      rw [if_neg (by
        unfold tooMuch
        have : (p == f + 64) = false := by simp; omega
        show ¬ (!(c.toNat == 13) && (p == f + 64)) = true
        rw [this, Bool.and_false]; decide), if_neg (txt_not13 ha.1), if_pos ha.1]
      rfl
    refine rds_step (by show Tk.inExt ≠ .no; decide) (mC_bite h1) ?_
    rw [List.length_cons, show p + (r.length + 1) = p + 1 + r.length by omega]
    exact ih (p + 1) ha.2 (by omega)
def dg (d : Nat) : UInt8 := [48, 49, 50, 51, 52, 53, 54, 55, 56, 57, 97, 66, 99, 68, 101, 70].getD d 0
/-- A number in base sixteen, as the laws write it. -/
def hexL (n : Nat) : List UInt8 := if n < 16 then [dg n] else if n < 256 then [dg (n / 16), dg (n % 16)] else [dg (n / 256), dg (n / 16 % 16), dg (n % 16)]
theorem hexd_dg : ∀ d, d < 16 → hexd (dg d) = some d := by decide
theorem hexL_some (n : Nat) (hn : n < 4096) : ∀ c ∈ hexL n, (hexd c).isSome = true := by
  unfold hexL
  split
  · intro c hc; rw [List.mem_singleton.1 hc, hexd_dg _ (by omega)]; rfl
  · split
    · intro c hc
      simp only [List.mem_cons, List.not_mem_nil, or_false] at hc
      rcases hc with rfl | rfl
      · rw [hexd_dg _ (by omega)]; rfl
      · rw [hexd_dg _ (by omega)]; rfl
    · intro c hc
      simp only [List.mem_cons, List.not_mem_nil, or_false] at hc
      rcases hc with rfl | rfl | rfl
      · rw [hexd_dg _ (by omega)]; rfl
      · rw [hexd_dg _ (by omega)]; rfl
      · rw [hexd_dg _ (by omega)]; rfl
theorem hexL_len (n : Nat) : (hexL n).length ≤ 3 ∧ 1 ≤ (hexL n).length := by unfold hexL; split; simp; split <;> simp
theorem grown_ok {n d : Nat} (h : n ≤ 6000) : grown 6000 n 16 d = n * 16 + d := if_neg (by omega)
theorem hexL_sz (n : Nat) (hn : n ≤ 2000) : szOf 0 (hexL n) = n := by
  unfold hexL
  split
  · simp only [szOf, List.foldl_cons, List.foldl_nil, hexd_dg n (by omega), Option.getD_some]
    rw [grown_ok (by omega)]; omega
  · split
    · simp only [szOf, List.foldl_cons, List.foldl_nil, hexd_dg (n / 16) (by omega), hexd_dg (n % 16) (by omega), Option.getD_some]
      rw [grown_ok (n := 0) (by omega), grown_ok (by omega)]; omega
    · simp only [szOf, List.foldl_cons, List.foldl_nil, hexd_dg (n / 256) (by omega), hexd_dg (n / 16 % 16) (by omega), hexd_dg (n % 16) (by omega), Option.getD_some]
      rw [grown_ok (n := 0) (by omega), grown_ok (n := 0 * 16 + n / 256) (by omega), grown_ok (by omega)]; omega
/-- A chunk's text. -/
def chunkT (t piece : List UInt8) : List UInt8 := hexL piece.length ++ [59] ++ t ++ [13, 10] ++ piece ++ [13, 10]
theorem rds_chunk (p : Nat) (bd piece t : List UInt8) (h0 : piece ≠ []) (hl : bd.length + piece.length ≤ 2000) (ht : t.all txt = true) (htl : t.length ≤ 40) :
    Rds (mC .inSize .no p p 0 0 bd) (chunkT t piece) (mC .inSize .no (p + (chunkT t piece).length) (p + (chunkT t piece).length) 0 0 (bd ++ piece)) := by
  have hpl : 0 < piece.length := by
    rcases Nat.eq_zero_or_pos piece.length with e | e
    · exact absurd (List.eq_nil_of_length_eq_zero e) h0
    · exact e
  obtain ⟨hh3, hh1⟩ := hexL_len piece.length
  have h1 := rds_size p bd (hexL piece.length) p 0 (hexL_some _ (by omega)) (by omega)
  rw [hexL_sz _ (by omega)] at h1
  have hcl : (chunkT t piece).length = (hexL piece.length).length + t.length + piece.length + 5 := by unfold chunkT; simp only [List.length_append, List.length_cons, List.length_nil]; omega
  obtain ⟨q, hq⟩ : ∃ q, p + (hexL piece.length).length = q := ⟨_, rfl⟩
  rw [hq] at h1
  have h2 : bite (mC .inSize .no q p piece.length 0 bd) 59 = mC .inExt .no (q + 1) p piece.length 0 bd := by
    refine mC_bite (o := ((.inExt, .no), mC .inSize .no q p piece.length 0 bd)) ?_
    show inSize _ 59 = _
    unfold inSize
    rw [if_neg (by
      unfold tooMuch
      have : (q == p + 64) = false := by simp; omega
      show ¬ (!((59 : UInt8).toNat == 13) && (q == p + 64)) = true
      rw [this, Bool.and_false]; decide), show hexd 59 = none by decide]
    show (if q = p then _ else _) = _
    rw [if_neg (by omega)]
    rfl
  have h3 := rds_ext p piece.length bd t (q + 1) ht (by omega)
  have h4 : bite (mC .inExt .no (q + 1 + t.length) p piece.length 0 bd) 13 = mC .lineFeed .sizeLineEnds (q + 1 + t.length + 1) p piece.length 0 bd :=
    mC_bite (o := ((.lineFeed, .sizeLineEnds), mC .inExt .no (q + 1 + t.length) p piece.length 0 bd)) rfl
  have h5 : bite (mC .lineFeed .sizeLineEnds (q + 1 + t.length + 1) p piece.length 0 bd) 10 = mC .lineEnd .sizeLine (q + 1 + t.length + 2) p piece.length piece.length bd := by
    refine mC_bite (o := ((.lineEnd, .sizeLine), mC .lineFeed .sizeLineEnds (q + 1 + t.length + 1) p piece.length piece.length bd)) ?_
    show sizeLineEnds _ = _
    unfold sizeLineEnds
    rw [if_neg (by show ¬ 6000 < piece.length + bd.length; omega), if_neg (by show ¬ piece.length = 0; omega)]
    rfl
  have h6 := rds_fill (m := mC .lineEnd .sizeLine (q + 1 + t.length + 2) p piece.length piece.length bd) piece (Nat.le_refl _)
  have e6 : ({ mC .lineEnd .sizeLine (q + 1 + t.length + 2) p piece.length piece.length bd with body := (mC .lineEnd .sizeLine (q + 1 + t.length + 2) p piece.length piece.length bd).body ++ piece, left := (mC .lineEnd .sizeLine (q + 1 + t.length + 2) p piece.length piece.length bd).left - piece.length, at_ := (mC .lineEnd .sizeLine (q + 1 + t.length + 2) p piece.length piece.length bd).at_ + piece.length } : Msg) = mC .lineEnd .sizeLine (q + 1 + t.length + 2 + piece.length) p piece.length 0 (bd ++ piece) := by
    show mC .lineEnd .sizeLine (q + 1 + t.length + 2 + piece.length) p piece.length (piece.length - piece.length) (bd ++ piece) = _
    rw [Nat.sub_self]
  rw [e6] at h6
  have h7 : bite (mC .lineEnd .sizeLine (q + 1 + t.length + 2 + piece.length) p piece.length 0 (bd ++ piece)) 13 = mC .lineFeed .sizeLine (q + 1 + t.length + 2 + piece.length + 1) p piece.length 0 (bd ++ piece) :=
    mC_bite (o := ((.lineFeed, .sizeLine), mC .lineEnd .sizeLine (q + 1 + t.length + 2 + piece.length) p piece.length 0 (bd ++ piece))) rfl
  have h8 : bite (mC .lineFeed .sizeLine (q + 1 + t.length + 2 + piece.length + 1) p piece.length 0 (bd ++ piece)) 10 = mC .inSize .no (q + 1 + t.length + 2 + piece.length + 2) (q + 1 + t.length + 2 + piece.length + 2) 0 0 (bd ++ piece) :=
    mC_bite (o := part (mC .lineFeed .sizeLine (q + 1 + t.length + 2 + piece.length + 1) p 0 0 (bd ++ piece)) .inSize) rfl
  rw [hcl, show p + ((hexL piece.length).length + t.length + piece.length + 5) = q + 1 + t.length + 2 + piece.length + 2 by omega]
  rw [show chunkT t piece = hexL piece.length ++ (59 :: (t ++ (13 :: 10 :: (piece ++ [13, 10])))) by simp [chunkT]]
  exact rds_app h1 (rds_step (by show Tk.inSize ≠ .no; decide) h2 (rds_app h3 (rds_step (by show Tk.inExt ≠ .no; decide) h4 (rds_step (by show Tk.lineFeed ≠ .no; decide) h5 (rds_app h6 (rds_step (by show Tk.lineEnd ≠ .no; decide) h7 (rds_step (by show Tk.lineFeed ≠ .no; decide) h8 (.nil _))))))))
end Go.Wb
namespace Go.Wb
/-- Behind the last chunk. -/
def mU (t : Tk) (h : Th) (p f : Nat) (b : Int) (ln : Nat) (bd : List UInt8) : Msg := { cB with tk := t, th := h, at_ := p, frm := f, bound := b, lines := ln, trailers := true, body := bd }
theorem mU_bite {t : Tk} {h : Th} {p f ln : Nat} {b : Int} {bd : List UInt8} {c : UInt8} {o : Out} (hb : (p : Int) < b) (hd : takeDo t (mU t h p f b ln bd) c = o) : bite (mU t h p f b ln bd) c = after o :=
  bite_of (m := mU t h p f b ln bd) rfl (by show (p : Int) ≠ b; omega) hd
theorem keep_mU (t : Tk) (h : Th) (p f : Nat) (b : Int) (ln : Nat) (bd : List UInt8) (c : UInt8) : keep (mU t h p f b ln bd) c = mU t h p f b ln bd := rfl
theorem rds_nameU (f : Nat) (b : Int) (ln : Nat) (bd : List UInt8) (n : List UInt8) : ∀ p : Nat, n.all tok = true → ((p + n.length : Nat) : Int) ≤ b → Rds (mU .inName .no p f b ln bd) n (mU .inName .no (p + n.length) f b ln bd) := by
  induction n with
  | nil => intro p _ _; exact .nil _
  | cons c r ih =>
    intro p ha hb
    rw [List.all_cons, Bool.and_eq_true] at ha
    rw [List.length_cons] at hb
    have hd : takeDo .inName (mU .inName .no p f b ln bd) c = ((.inName, .no), mU .inName .no p f b ln bd) := by
      show inName _ c = _
      unfold inName
      rw [if_pos ha.1]
      rfl
    refine rds_step (by show Tk.inName ≠ .no; decide) (mU_bite (by omega) hd) ?_
    rw [List.length_cons, show p + (r.length + 1) = p + 1 + r.length by omega]
    exact ih (p + 1) ha.2 (by omega)
/-- The line of a trailer, as the laws write it. -/
def trailT (t : List UInt8) : List UInt8 := if t = [] then [] else t ++ [58, 32, 120, 13, 10]
theorem rds_trail (p : Nat) (b : Int) (bd t : List UInt8) (ht : t.all tok = true) (hb : ((p + t.length + 5 : Nat) : Int) ≤ b) : ∃ ln, Rds (mU .atLine .no p p b 0 bd) (trailT t) (mU .atLine .no (p + (trailT t).length) (p + (trailT t).length) b ln bd) := by
  unfold trailT
  split
  · exact ⟨0, .nil _⟩
  · rename_i h0
    obtain ⟨c, r, rfl⟩ := List.exists_cons_of_ne_nil h0
    rw [List.all_cons, Bool.and_eq_true] at ht
    rw [List.length_cons] at hb
    have h1 : bite (mU .atLine .no p p b 0 bd) c = mU .inName .no (p + 1) p b 1 bd := by
      refine mU_bite (by omega) (o := ((.inName, .no), mU .atLine .no p p b 1 bd)) ?_
      show atLine _ c = _
      unfold atLine
      rw [if_neg (tok_not13 ht.1), if_neg (by show ¬ (0 : Nat) = 32; omega)]
      unfold inName
      rw [if_pos ht.1]
      rfl
    have h2 := rds_nameU p b 1 bd r (p + 1) ht.2 (by omega)
    have h3 : bite (mU .inName .no (p + 1 + r.length) p b 1 bd) 58 = mU .inValue .no (p + 1 + r.length + 1) (p + 1 + r.length + 1) b 1 bd := by
      refine mU_bite (by omega) (o := part (mU .inName .no (p + 1 + r.length) p b 1 bd) .inValue) ?_
      show inName _ 58 = _
      unfold inName
      rw [if_neg (by decide), if_pos ⟨by decide, by show p < p + 1 + r.length; omega⟩]
      rfl
    have h4 : bite (mU .inValue .no (p + 1 + r.length + 1) (p + 1 + r.length + 1) b 1 bd) 32 = mU .inValue .no (p + 1 + r.length + 2) (p + 1 + r.length + 1) b 1 bd :=
      mU_bite (by omega) (o := ((.inValue, .no), mU .inValue .no (p + 1 + r.length + 1) (p + 1 + r.length + 1) b 1 bd)) rfl
    have h5 : bite (mU .inValue .no (p + 1 + r.length + 2) (p + 1 + r.length + 1) b 1 bd) 120 = mU .inValue .no (p + 1 + r.length + 3) (p + 1 + r.length + 1) b 1 bd :=
      mU_bite (by omega) (o := ((.inValue, .no), mU .inValue .no (p + 1 + r.length + 2) (p + 1 + r.length + 1) b 1 bd)) rfl
    have h6 : bite (mU .inValue .no (p + 1 + r.length + 3) (p + 1 + r.length + 1) b 1 bd) 13 = mU .lineFeed .headerEnds (p + 1 + r.length + 4) (p + 1 + r.length + 1) b 1 bd :=
      mU_bite (by omega) (o := ((.lineFeed, .headerEnds), mU .inValue .no (p + 1 + r.length + 3) (p + 1 + r.length + 1) b 1 bd)) rfl
    have h7 : bite (mU .lineFeed .headerEnds (p + 1 + r.length + 4) (p + 1 + r.length + 1) b 1 bd) 10 = mU .atLine .no (p + 1 + r.length + 5) (p + 1 + r.length + 5) b 1 bd :=
      mU_bite (by omega) (o := part (mU .lineFeed .headerEnds (p + 1 + r.length + 4) (p + 1 + r.length + 1) b 1 bd) .atLine) rfl
    refine ⟨1, ?_⟩
    have el : (c :: r ++ [58, 32, 120, 13, 10]).length = r.length + 6 := by simp
    rw [el, show p + (r.length + 6) = p + 1 + r.length + 5 by omega]
    refine rds_step (by show Tk.atLine ≠ .no; decide) h1 ?_
    exact rds_app h2 (rds_step (by show Tk.inName ≠ .no; decide) h3 (rds_step (by show Tk.inValue ≠ .no; decide) h4 (rds_step (by show Tk.inValue ≠ .no; decide) h5 (rds_step (by show Tk.inValue ≠ .no; decide) h6 (rds_step (by show Tk.lineFeed ≠ .no; decide) h7 (.nil _))))))
/-- The last chunk, trailers, the end. -/
theorem rds_last (p : Nat) (bd t : List UInt8) (ht : t.all tok = true) (htl : t.length ≤ 40) (hbd : bd.length ≤ 6000) : ∃ q f b ln, Rds (mC .inSize .no p p 0 0 bd) ([48, 13, 10] ++ trailT t ++ [13, 10]) (mU .no .no q f b ln bd) := by
  have hsm := rds_size p bd [48] p 0 (by decide) (by simp)
  have e0 : szOf 0 [48] = 0 := by decide
  rw [e0] at hsm
  have h2 : bite (mC .inSize .no (p + 1) p 0 0 bd) 13 = mC .lineFeed .sizeLineEnds (p + 2) p 0 0 bd := by
    refine mC_bite (o := ((.lineFeed, .sizeLineEnds), mC .inSize .no (p + 1) p 0 0 bd)) ?_
    show inSize _ 13 = _
    unfold inSize
    rw [if_neg (by show ¬ (!((13 : UInt8).toNat == 13) && ((p + 1) == p + 64)) = true; rw [show ((13 : UInt8).toNat == 13) = true from rfl]; simp), show hexd 13 = none by decide]
    show (if p + 1 = p then _ else _) = _
    rw [if_neg (by omega)]
    rfl
  have h3 : bite (mC .lineFeed .sizeLineEnds (p + 2) p 0 0 bd) 10 = mU .atLine .no (p + 3) (p + 3) (((p + 2 : Nat) : Int) + 1 + 2048) 0 bd := by
    refine mC_bite (o := part (mU .lineFeed .sizeLineEnds (p + 2) p (((p + 2 : Nat) : Int) + 1 + 2048) 0 bd) .atLine) ?_
    show sizeLineEnds _ = _
    unfold sizeLineEnds
    rw [if_neg (by show ¬ 6000 < 0 + bd.length; omega), if_pos (by rfl)]
    rfl
  obtain ⟨ln, h4⟩ := rds_trail (p + 3) (((p + 2 : Nat) : Int) + 1 + 2048) bd t ht (by omega)
  have htr : (trailT t).length ≤ 45 := by unfold trailT; split; simp; simp; omega
  obtain ⟨q, hq⟩ : ∃ q, p + 3 + (trailT t).length = q := ⟨_, rfl⟩
  rw [hq] at h4
  have h5 : bite (mU .atLine .no q q (((p + 2 : Nat) : Int) + 1 + 2048) ln bd) 13 = mU .lineFeed .emptyLineEnds (q + 1) q (((p + 2 : Nat) : Int) + 1 + 2048) ln bd :=
    mU_bite (by omega) (o := ((.lineFeed, .emptyLineEnds), mU .atLine .no q q (((p + 2 : Nat) : Int) + 1 + 2048) ln bd)) rfl
  have h6 : bite (mU .lineFeed .emptyLineEnds (q + 1) q (((p + 2 : Nat) : Int) + 1 + 2048) ln bd) 10 = mU .no .no (q + 2) q (((p + 2 : Nat) : Int) + 1 + 2048) ln bd :=
    mU_bite (by omega) (o := ((.no, .no), mU .lineFeed .emptyLineEnds (q + 1) q (((p + 2 : Nat) : Int) + 1 + 2048) ln bd)) rfl
  refine ⟨q + 2, q, ((p + 2 : Nat) : Int) + 1 + 2048, ln, ?_⟩
  rw [show [48, 13, 10] ++ trailT t ++ [13, 10] = [48] ++ (13 :: 10 :: (trailT t ++ [13, 10])) by simp]
  exact rds_app hsm (rds_step (by show Tk.inSize ≠ .no; decide) h2 (rds_step (by show Tk.lineFeed ≠ .no; decide) h3 (rds_app h4 (rds_step (by show Tk.atLine ≠ .no; decide) h5 (rds_step (by show Tk.lineFeed ≠ .no; decide) h6 (.nil _))))))
/-- Chunks of pieces; those that are none are passed over. -/
def chunksT (t : List UInt8) (l : List (List UInt8)) : List UInt8 := l.flatMap fun x => if x = [] then [] else chunkT t x
theorem rds_chunks (t : List UInt8) (ht : t.all txt = true) (htl : t.length ≤ 40) (l : List (List UInt8)) : ∀ (p : Nat) (bd : List UInt8), bd.length + l.flatten.length ≤ 2000 → ∃ q, Rds (mC .inSize .no p p 0 0 bd) (chunksT t l) (mC .inSize .no q q 0 0 (bd ++ l.flatten)) := by
  induction l with
  | nil => intro p bd _; exact ⟨p, by simp [chunksT]; exact .nil _⟩
  | cons x r ih =>
    intro p bd hl
    rw [List.flatten_cons, List.length_append] at hl
    have e : chunksT t (x :: r) = (if x = [] then [] else chunkT t x) ++ chunksT t r := rfl
    by_cases hx : x = []
    · subst hx
      rw [e, if_pos rfl, List.nil_append, List.flatten_cons, List.nil_append]
      exact ih p bd (by simpa using hl)
    · have h1 := rds_chunk p bd x t hx (by omega) ht htl
      obtain ⟨q, h2⟩ := ih (p + (chunkT t x).length) (bd ++ x) (by rw [List.length_append]; omega)
      refine ⟨q, ?_⟩
      rw [e, if_neg hx, List.flatten_cons, ← List.append_assoc]
      exact rds_app h1 h2
theorem chunksT_len (t : List UInt8) (htl : t.length ≤ 31) (l : List (List UInt8)) : (chunksT t l).length ≤ 40 * l.flatten.length := by
  induction l with
  | nil => exact Nat.zero_le _
  | cons x r ih =>
    have e : chunksT t (x :: r) = (if x = [] then [] else chunkT t x) ++ chunksT t r := rfl
    rw [e, List.length_append, List.flatten_cons, List.length_append]
    split
    · simp only [List.length_nil]; omega
    · rename_i hx
      have hh := (hexL_len x.length).1
      have hl : 0 < x.length := by
        rcases Nat.eq_zero_or_pos x.length with e | e
        · exact absurd (List.eq_nil_of_length_eq_zero e) hx
        · exact e
      have : (chunkT t x).length = (hexL x.length).length + t.length + x.length + 5 := by unfold chunkT; simp only [List.length_append, List.length_cons, List.length_nil]; omega
      omega
theorem chunksT_next {t : List UInt8} {l : List (List UInt8)} {i : Nat} (hi : i < l.length) : chunksT t (l.take (i + 1)) = chunksT t (l.take i) ++ (if l[i] = [] then [] else chunkT t l[i]) := by
  unfold chunksT
  rw [List.take_add_one, List.getElem?_eq_getElem hi, List.flatMap_append]
  simp
/-- All of it. -/
theorem fd_chunks (t : List UInt8) (ht : t.all txt = true) (ht2 : t.all tok = true) (htl : t.length ≤ 40) (l : List (List UInt8)) (hl : l.flatten.length ≤ 2000) : ∃ n, fd (newReq 0) (chHead ++ chunksT t l ++ ([48, 13, 10] ++ trailT t ++ [13, 10]) ++ helloL) = ([⟨[80, 79, 83, 84], [47, 99], [(wHost, [120]), (wCoding, [67, 104, 117, 110, 107, 101, 100])], l.flatten, false⟩, ⟨[71, 69, 84], [47, 97], [([104, 111, 115, 116], [120])], [], false⟩], newReq n) := by
  obtain ⟨q, h1⟩ := rds_chunks t ht htl l 56 [] (by simpa using hl)
  rw [List.nil_append] at h1
  obtain ⟨q2, f, b, ln, h2⟩ := rds_last q l.flatten t ht2 htl (by omega)
  have h := rds_app (rds_app rds_chHead h1) h2
  rw [rds_fd h (by simp [chHead])]
  have hw : whole (mU .no .no q2 f b ln l.flatten) = true := rfl
  rw [if_pos hw]
  have hg : goOn (mU .no .no q2 f b ln l.flatten) = newReq q2 := rfl
  have := fd_hello q2 []
  rw [List.append_nil] at this
  rw [hg, this]
  exact ⟨q2 + 28, rfl⟩
end Go.Wb
namespace Go.Wb
theorem dg_ext : ∀ d, d < 16 → (⟨#[48, 49, 50, 51, 52, 53, 54, 55, 56, 57, 97, 66, 99, 68, 101, 70]⟩ : ByteArray).extract d (d + 1) = ⟨#[dg d]⟩ := by decide
end Go.Wb
namespace Go.Proofs
open Go.RowKit Go.Wi Go.Wb
set_option maxRecDepth 20000 in
set_option maxHeartbeats 1000000 in
theorem Tryz.hex_any (n : Nat) (h0 : 1 ≤ n) (hn : n ≤ 2000) (w : World) :
    Calls Tryz.prog 14 #[.int .i64 n] w fun e w' => e = .returned (.string ⟨(hexL n).toArray⟩) ∧ w' = w := by
  go_enter Tryz.func14, Tryz.ntmps14
  go_wp2
  go_loopw [0, 3, 4] (fun nv sv kv wr => wr = w ∧ ((kv = .int .i64 0 ∧ nv = .int .i64 n ∧ sv = .string ⟨#[]⟩) ∨ (kv = .int .i64 1 ∧ nv = .int .i64 ((n / 16 : Nat) : Int) ∧ sv = .string ⟨#[dg (n % 16)]⟩) ∨ (16 ≤ n ∧ kv = .int .i64 2 ∧ nv = .int .i64 ((n / 256 : Nat) : Int) ∧ sv = .string ⟨#[dg (n / 16 % 16), dg (n % 16)]⟩) ∨ (256 ≤ n ∧ kv = .int .i64 3 ∧ nv = .int .i64 0 ∧ sv = .string ⟨#[dg (n / 256), dg (n / 16 % 16), dg (n % 16)]⟩))) (fun _ _ kv _ => 4 - (intOf kv).toNat)
  case atStart => exact ⟨rfl, .inl ⟨rfl, rfl, rfl⟩⟩
  case round =>
    obtain ⟨rfl, h⟩ := hrel
    rcases h with ⟨rfl, rfl, rfl⟩ | ⟨rfl, rfl, rfl⟩ | ⟨h16, rfl, rfl, rfl⟩ | ⟨h256, rfl, rfl, rfl⟩
    · have hx := dg_ext (n % 16) (by omega)
      have q : (n : Int) > 0 := by omega
      go_wp2
      go_roundw
      case rel => exact ⟨by trivial, .inr (.inl ⟨rfl, by simp, rfl⟩)⟩
      case measure => simp [intOf]
    · have HN : Hid (n = n) := rfl
      by_cases ha : n / 16 = 0
      · have q : ¬ ((n / 16 : Nat) : Int) > 0 := by omega
        have HE : Hid (hexL n = [dg (n % 16)]) := (by show _ = _; unfold hexL; rw [if_pos (by omega), Nat.mod_eq_of_lt (by omega)])
        generalize n / 16 = a at *
        go_wp2
        go_ret
        exact ⟨by rw [HE.out]; rfl, rfl⟩
      · have q : ((n / 16 : Nat) : Int) > 0 := by omega
        have hx := dg_ext (n / 16 % 16) (by omega)
        have H16 : Hid (16 ≤ n) := (by show 16 ≤ n; omega)
        have HD : Hid (n / 256 = n / 16 / 16) := (by show _ = _; omega)
        have hab : n / 16 ≤ 125 := by omega
        generalize n / 16 = a at *
        go_wp2
        go_roundw
        case rel => exact ⟨by trivial, .inr (.inr (.inl ⟨H16.out, rfl, by rw [HD.out]; simp, rfl⟩))⟩
        case measure => simp [intOf]
    · by_cases ha : n / 256 = 0
      · have q : ¬ ((n / 256 : Nat) : Int) > 0 := by omega
        have HE : Hid (hexL n = [dg (n / 16 % 16), dg (n % 16)]) := (by show _ = _; unfold hexL; rw [if_neg (by omega), if_pos (by omega), Nat.mod_eq_of_lt (by omega : n / 16 < 16)])
        generalize n / 256 = a at *
        go_wp2
        go_ret
        exact ⟨by rw [HE.out]; rfl, rfl⟩
      · have q : ((n / 256 : Nat) : Int) > 0 := by omega
        have hx := dg_ext (n / 256) (by omega)
        have H16 : Hid (256 ≤ n) := (by show 256 ≤ n; omega)
        have hab : n / 256 ≤ 7 := by omega
        generalize n / 256 = a at *
        have e1 : a % 16 = a := Nat.mod_eq_of_lt (by omega)
        have e2 : (a : Int) / 16 = 0 := by omega
        rw [← e1] at hx
        go_wp2
        go_roundw
        case rel => exact ⟨by trivial, .inr (.inr (.inr ⟨H16.out, rfl, by first | rfl | rw [e2] | simp, by rw [dg_ext a (by omega)]; rfl⟩))⟩
        case measure => simp [intOf]
    · have HE : Hid (hexL n = [dg (n / 256), dg (n / 16 % 16), dg (n % 16)]) := (by show _ = _; unfold hexL; rw [if_neg (by omega), if_neg (by omega)])
      go_wp2
      go_ret
      exact ⟨by rw [HE.out]; rfl, rfl⟩
end Go.Proofs
