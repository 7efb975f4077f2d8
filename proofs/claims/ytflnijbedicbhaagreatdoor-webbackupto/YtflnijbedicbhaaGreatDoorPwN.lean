/-
  Laid together by packg.py of Na Nb Nc Nd Nh Ni Nj.
-/
import Derived.Test.YtflnijbedicbhaaGreatDoorPwZ
import Derived.Test.YtflnijbedicbhaaGreatDoorPwE
import Derived.Lib.ItoaNum
namespace Go.Wb
/-- All of these bytes belong to the message. -/
inductive Rds : Msg → List UInt8 → Msg → Prop
  | nil (m : Msg) : Rds m [] m
  | cons {m m' : Msg} {c : UInt8} {r : List UInt8} : over m = false → Rds (bite m c) r m' → Rds m (c :: r) m'
theorem rds_app {m m1 m2 : Msg} {a b : List UInt8} (h : Rds m a m1) (g : Rds m1 b m2) : Rds m (a ++ b) m2 := by
  induction h with
  | nil => exact g
  | cons ho _ ih => exact .cons ho (ih g)
theorem rds_one {m : Msg} (h : over m = false) (c : UInt8) : Rds m [c] (bite m c) := .cons h (.nil _)
theorem rds_rd {m m' : Msg} {l : List UInt8} (h : Rds m l m') (r : List UInt8) : rd m (l ++ r) = ((rd m' r).1, l.length + (rd m' r).2) := by
  induction h with
  | nil m => simp
  | @cons m m' c l ho _ ih =>
    have e : rd m (c :: l ++ r) = ((rd (bite m c) (l ++ r)).1, (rd (bite m c) (l ++ r)).2 + 1) := by
      show (if over m then _ else _) = _
      rw [if_neg (by rw [ho]; exact Bool.false_ne_true)]
      rfl
    rw [e, ih, List.length_cons]
    simp only [Prod.mk.injEq, true_and]
    omega
theorem rds_fd {m m' : Msg} {l : List UInt8} (h : Rds m l m') (hl : l ≠ []) (r : List UInt8) : fd m (l ++ r) = if whole m' then (req m' :: (fd (goOn m') r).1, (fd (goOn m') r).2) else fd m' r := by
  induction h with
  | nil m => exact absurd rfl hl
  | @cons m m' c l ho hr ih =>
    rw [List.cons_append, fd_cons, if_neg (by rw [ho]; exact Bool.false_ne_true)]
    cases hr with
    | nil => rfl
    | @cons _ _ c2 l2 ho2 _ =>
      have hw : whole (bite m c) = false := by unfold whole; rw [ho2]; rfl
      rw [if_neg (by rw [hw]; exact Bool.false_ne_true)]
      exact ih (by simp)
theorem rds_on {m m' : Msg} {l : List UInt8} (h : Rds m l m') (hw : whole m' = false) (r : List UInt8) : fd m (l ++ r) = fd m' r := by
  by_cases hl : l = []
  · subst hl; cases h; rfl
  · rw [rds_fd h hl, if_neg (by rw [hw]; exact Bool.false_ne_true)]
/-- Of a beginning nothing is told. -/
theorem rds_part {m m' : Msg} {l : List UInt8} (h : Rds m l m') : ∀ k, k < l.length → ∃ m1, Rds m (l.take k) m1 ∧ over m1 = false := by
  induction h with
  | nil m => intro k hk; cases hk
  | @cons m m' c l ho _ ih =>
    intro k hk
    cases k with
    | zero => exact ⟨m, .nil m, ho⟩
    | succ k =>
      obtain ⟨m1, h1, h2⟩ := ih k (by simpa using hk)
      exact ⟨m1, .cons ho h1, h2⟩
/-- By reckoning. -/
def runB (m : Msg) : List UInt8 → Option Msg
  | [] => some m
  | c :: r => if over m then none else runB (bite m c) r
theorem rds_of {m m' : Msg} {l : List UInt8} (h : runB m l = some m') : Rds m l m' := by
  induction l generalizing m with
  | nil => cases h; exact .nil _
  | cons c r ih =>
    unfold runB at h
    split at h
    · cases h
    · rename_i ho
      exact .cons (by simpa using ho) (ih h)
theorem bite_of {m : Msg} {c : UInt8} {o : Out} (hl : m.left = 0) (hb : (m.at_ : Int) ≠ m.bound) (h : takeDo m.tk m c = o) : bite m c = after o := by
  unfold bite step
  rw [if_neg (by omega), if_neg hb, h]
  rfl
theorem bite_left {m : Msg} (c : UInt8) (hl : 0 < m.left) : bite m c = { m with body := m.body ++ [c], left := m.left - 1, at_ := m.at_ + 1 } := by
  unfold bite
  rw [if_pos hl]
theorem over_tk {m : Msg} (h : m.tk ≠ .no) : over m = false := by
  unfold over
  have : (m.tk == Tk.no) = false := by simpa using h
  rw [this]; rfl
/-- A step on. -/
theorem rds_step {m m1 m' : Msg} {c : UInt8} {r : List UInt8} (ht : m.tk ≠ .no) (hb : bite m c = m1) (h : Rds m1 r m') : Rds m (c :: r) m' := .cons (over_tk ht) (hb ▸ h)
/-- The bytes of a body. -/
theorem rds_fill {m : Msg} (l : List UInt8) (h : l.length ≤ m.left) : Rds m l { m with body := m.body ++ l, left := m.left - l.length, at_ := m.at_ + l.length } := by
  induction l generalizing m with
  | nil => simp; exact .nil m
  | cons c r ih =>
    rw [List.length_cons] at h
    have hp : 0 < m.left := by omega
    have ho : over m = false := by
      unfold over
      have : (m.left == 0) = false := by simpa using Nat.ne_of_gt hp
      rw [this, Bool.and_false]
    refine .cons ho ?_
    rw [bite_left c hp]
    have := ih (m := { m with body := m.body ++ [c], left := m.left - 1, at_ := m.at_ + 1 }) (by show r.length ≤ m.left - 1; omega)
    simp only [List.append_assoc, List.singleton_append] at this
    rw [List.length_cons, show m.left - (r.length + 1) = m.left - 1 - r.length by omega, show m.at_ + (r.length + 1) = m.at_ + 1 + r.length by omega]
    exact this
end Go.Wb
namespace Go.Wb
/-- In the midst of a head, at a place p, a part having begun at f. -/
def mAt (B : Msg) (t : Tk) (h : Th) (p f : Nat) (w : List UInt8) (k : Nat) (nm : List UInt8) (hs : List (List UInt8 × List UInt8)) : Msg := { B with tk := t, th := h, at_ := p, frm := f, word := w, lines := k, name := nm, headers := hs }
section
variable {B : Msg} (hB : B.left = 0) (hT : B.trailers = false) {k : Nat} {nm : List UInt8} {hs : List (List UInt8 × List UInt8)}
include hB
theorem mAt_bite {t : Tk} {h : Th} {p f : Nat} {w : List UInt8} {c : UInt8} {o : Out} (hb : (p : Int) < B.bound ∨ B.bound < 0) (hd : takeDo t (mAt B t h p f w k nm hs) c = o) : bite (mAt B t h p f w k nm hs) c = after o := by
  refine bite_of (m := mAt B t h p f w k nm hs) hB ?_ hd
  show (p : Int) ≠ B.bound
  rcases hb with hb | hb <;> omega
include hT
omit hB in
theorem keep_mAt (t : Tk) (h : Th) (p f : Nat) (w : List UInt8) (c : UInt8) : keep (mAt B t h p f w k nm hs) c = mAt B t h p f (w ++ [c]) k nm hs := by
  unfold keep
  rw [if_neg (by show ¬ B.trailers = true; rw [hT]; exact Bool.false_ne_true)]
  rfl
/-- A name goes on. -/
theorem rds_name (n : List UInt8) : ∀ (p f : Nat) (w : List UInt8), n.all tok = true → ((p + n.length : Nat) : Int) ≤ B.bound ∨ B.bound < 0 → Rds (mAt B .inName .no p f w k nm hs) n (mAt B .inName .no (p + n.length) f (w ++ n.map sm) k nm hs) := by
  induction n with
  | nil => intro p f w _ _; simp; exact .nil _
  | cons c r ih =>
    intro p f w ha hb
    rw [List.all_cons, Bool.and_eq_true] at ha
    rw [List.length_cons] at hb
    have hd : takeDo .inName (mAt B .inName .no p f w k nm hs) c = ((.inName, .no), mAt B .inName .no p f (w ++ [sm c]) k nm hs) := by
      show inName _ c = _
      unfold inName
      rw [if_pos ha.1, keep_mAt hT]
    refine rds_step (by show Tk.inName ≠ .no; decide) (mAt_bite hB (by rcases hb with hb | hb; exact .inl (by omega); exact .inr hb) hd) ?_
    have := ih (p + 1) f (w ++ [sm c]) ha.2 (by rcases hb with hb | hb; exact .inl (by omega); exact .inr hb)
    rw [List.length_cons, List.map_cons, show p + (r.length + 1) = p + 1 + r.length by omega, show w ++ sm c :: r.map sm = w ++ [sm c] ++ r.map sm by simp]
    exact this
/-- A value goes on. -/
theorem rds_value (v : List UInt8) : ∀ (p f : Nat) (w : List UInt8), v.all txt = true → (w = [] → ∀ c ∈ v.head?, blank c = false) → ((p + v.length : Nat) : Int) ≤ B.bound ∨ B.bound < 0 → Rds (mAt B .inValue .no p f w k nm hs) v (mAt B .inValue .no (p + v.length) f (w ++ v) k nm hs) := by
  induction v with
  | nil => intro p f w _ _ _; simp; exact .nil _
  | cons c r ih =>
    intro p f w ha hw hb
    rw [List.all_cons, Bool.and_eq_true] at ha
    rw [List.length_cons] at hb
    have h13 : ¬ c.toNat = 13 := fun e => by
      have := ha.1
      unfold txt at this
      rw [e] at this
      revert this; decide
    have hbl : ¬ (blank c && (mAt B .inValue .no p f w k nm hs).word.isEmpty) = true := by
      show ¬ (blank c && w.isEmpty) = true
      cases w with
      | nil => rw [hw rfl c (by simp)]; decide
      | cons _ _ => simp
    have hd : takeDo .inValue (mAt B .inValue .no p f w k nm hs) c = ((.inValue, .no), mAt B .inValue .no p f (w ++ [c]) k nm hs) := by
      show inValue _ c = _
      unfold inValue
      rw [if_neg h13, if_neg hbl, if_pos ha.1, keep_mAt hT]
      rfl
    refine rds_step (by show Tk.inValue ≠ .no; decide) (mAt_bite hB (by rcases hb with hb | hb; exact .inl (by omega); exact .inr hb) hd) ?_
    have := ih (p + 1) f (w ++ [c]) ha.2 (fun e => by simp at e) (by rcases hb with hb | hb; exact .inl (by omega); exact .inr hb)
    rw [List.length_cons, show p + (r.length + 1) = p + 1 + r.length by omega, show w ++ c :: r = w ++ [c] ++ r by simp]
    exact this
omit hB hT in
theorem tok_not13 {c : UInt8} (h : tok c = true) : c.toNat ≠ 13 := fun e => by
  have : c = 13 := UInt8.toNat_inj.1 e
  rw [this] at h; revert h; decide
/-- A header's line. -/
theorem rds_header (n v : List UInt8) (p : Nat) (hn0 : n ≠ []) (hn : n.all tok = true) (hv : v.all txt = true) (hv2 : ∀ c ∈ v.head?, blank c = false) (hv3 : trimR v = v) (hk : k < 32) (hb : ((p + (n.length + v.length + 4) : Nat) : Int) ≤ B.bound ∨ B.bound < 0) :
    Rds (mAt B .atLine .no p p [] k nm hs) (n ++ [58, 32] ++ v ++ [13, 10]) (mAt B .atLine .no (p + (n.length + v.length + 4)) (p + (n.length + v.length + 4)) [] (k + 1) (n.map sm) (hs ++ [(n.map sm, v)])) := by
  obtain ⟨c, r, rfl⟩ := List.exists_cons_of_ne_nil hn0
  rw [List.all_cons, Bool.and_eq_true] at hn
  rw [List.length_cons] at hb ⊢
  have bd : ∀ q : Nat, q < p + (r.length + 1 + v.length + 4) → (q : Int) < B.bound ∨ B.bound < 0 := fun q hq => by
    rcases hb with hb | hb
    · exact .inl (by omega)
    · exact .inr hb
  have h1 : bite (mAt B .atLine .no p p [] k nm hs) c = mAt B .inName .no (p + 1) p [sm c] (k + 1) nm hs := by
    refine mAt_bite hB (bd p (by omega)) (o := ((.inName, .no), mAt B .atLine .no p p [sm c] (k + 1) nm hs)) ?_
    show atLine _ c = _
    unfold atLine
    rw [if_neg (tok_not13 hn.1), if_neg (by show ¬ k = 32; omega)]
    unfold inName
    rw [if_pos hn.1]
    exact congrArg (Prod.mk _) (keep_mAt hT (k := k + 1) .atLine .no p p [] (sm c))
  have h2 := rds_name hB hT (k := k + 1) (nm := nm) (hs := hs) r (p + 1) p [sm c] hn.2 (by rcases hb with hb | hb; exact .inl (by omega); exact .inr hb)
  have e1 : [sm c] ++ r.map sm = (c :: r).map sm := rfl
  rw [e1] at h2
  have h3 : bite (mAt B .inName .no (p + 1 + r.length) p ((c :: r).map sm) (k + 1) nm hs) 58 = mAt B .inValue .no (p + 1 + r.length + 1) (p + 1 + r.length + 1) [] (k + 1) ((c :: r).map sm) hs := by
    refine mAt_bite hB (bd _ (by omega)) (o := part { mAt B .inName .no (p + 1 + r.length) p ((c :: r).map sm) (k + 1) nm hs with name := (c :: r).map sm } .inValue) ?_
    show inName _ 58 = _
    unfold inName
    rw [if_neg (by decide), if_pos ⟨by decide, by show p < p + 1 + r.length; omega⟩]
    rfl
  have h4 : bite (mAt B .inValue .no (p + 1 + r.length + 1) (p + 1 + r.length + 1) [] (k + 1) ((c :: r).map sm) hs) 32 = mAt B .inValue .no (p + 1 + r.length + 2) (p + 1 + r.length + 1) [] (k + 1) ((c :: r).map sm) hs :=
    mAt_bite hB (bd _ (by omega)) (o := ((.inValue, .no), mAt B .inValue .no (p + 1 + r.length + 1) (p + 1 + r.length + 1) [] (k + 1) ((c :: r).map sm) hs)) rfl
  have h5 := rds_value hB hT (k := k + 1) (nm := (c :: r).map sm) (hs := hs) v (p + 1 + r.length + 2) (p + 1 + r.length + 1) [] hv (fun _ => hv2) (by rcases hb with hb | hb; exact .inl (by omega); exact .inr hb)
  rw [List.nil_append] at h5
  have h6 : bite (mAt B .inValue .no (p + 1 + r.length + 2 + v.length) (p + 1 + r.length + 1) v (k + 1) ((c :: r).map sm) hs) 13 = mAt B .lineFeed .headerEnds (p + 1 + r.length + 2 + v.length + 1) (p + 1 + r.length + 1) v (k + 1) ((c :: r).map sm) hs :=
    mAt_bite hB (bd _ (by omega)) (o := ((.lineFeed, .headerEnds), mAt B .inValue .no (p + 1 + r.length + 2 + v.length) (p + 1 + r.length + 1) v (k + 1) ((c :: r).map sm) hs)) rfl
  have h7 : bite (mAt B .lineFeed .headerEnds (p + 1 + r.length + 2 + v.length + 1) (p + 1 + r.length + 1) v (k + 1) ((c :: r).map sm) hs) 10 = mAt B .atLine .no (p + 1 + r.length + 2 + v.length + 2) (p + 1 + r.length + 2 + v.length + 2) [] (k + 1) ((c :: r).map sm) (hs ++ [((c :: r).map sm, v)]) := by
    refine mAt_bite hB (bd _ (by omega)) (o := part { mAt B .lineFeed .headerEnds (p + 1 + r.length + 2 + v.length + 1) (p + 1 + r.length + 1) v (k + 1) ((c :: r).map sm) hs with headers := hs ++ [((c :: r).map sm, v)] } .atLine) ?_
    show lineFeed _ 10 = _
    unfold lineFeed
    rw [if_pos (by decide)]
    show headerEnds _ = _
    unfold headerEnds
    rw [if_neg (by show ¬ B.trailers = true; rw [hT]; exact Bool.false_ne_true)]
    show part _ _ = _
    rw [show trimR (mAt B .lineFeed .headerEnds (p + 1 + r.length + 2 + v.length + 1) (p + 1 + r.length + 1) v (k + 1) ((c :: r).map sm) hs).word = v from hv3]
    rfl
  rw [show p + (r.length + 1 + v.length + 4) = p + 1 + r.length + 2 + v.length + 2 by omega]
  refine rds_step (by show Tk.atLine ≠ .no; decide) h1 ?_
  show Rds _ (r ++ [58, 32] ++ v ++ [13, 10]) _
  rw [show r ++ [58, 32] ++ v ++ [13, 10] = r ++ (58 :: 32 :: (v ++ [13, 10])) by simp]
  exact rds_app h2 (rds_step (by show Tk.inName ≠ .no; decide) h3 (rds_step (by show Tk.inValue ≠ .no; decide) h4 (rds_app h5 (rds_step (by show Tk.inValue ≠ .no; decide) h6 (rds_step (by show Tk.lineFeed ≠ .no; decide) h7 (.nil _))))))
end
end Go.Wb
namespace Go.Wb
section
variable {B : Msg} (hB : B.left = 0) (hT : B.trailers = false) {k : Nat} {nm : List UInt8} {hs : List (List UInt8 × List UInt8)}
include hB hT
/-- A method goes on. -/
theorem rds_method (n : List UInt8) : ∀ (p f : Nat) (w : List UInt8), n.all tok = true → ((p + n.length : Nat) : Int) ≤ B.bound ∨ B.bound < 0 → Rds (mAt B .inMethod .no p f w k nm hs) n (mAt B .inMethod .no (p + n.length) f (w ++ n) k nm hs) := by
  induction n with
  | nil => intro p f w _ _; simp; exact .nil _
  | cons c r ih =>
    intro p f w ha hb
    rw [List.all_cons, Bool.and_eq_true] at ha
    rw [List.length_cons] at hb
    have hd : takeDo .inMethod (mAt B .inMethod .no p f w k nm hs) c = ((.inMethod, .no), mAt B .inMethod .no p f (w ++ [c]) k nm hs) := by
      show inMethod _ c = _
      unfold inMethod
      rw [if_pos ha.1, keep_mAt hT]
    refine rds_step (by show Tk.inMethod ≠ .no; decide) (mAt_bite hB (by rcases hb with hb | hb; exact .inl (by omega); exact .inr hb) hd) ?_
    have := ih (p + 1) f (w ++ [c]) ha.2 (by rcases hb with hb | hb; exact .inl (by omega); exact .inr hb)
    rw [List.length_cons, show p + (r.length + 1) = p + 1 + r.length by omega, show w ++ c :: r = w ++ [c] ++ r by simp]
    exact this
/-- A target goes on. -/
theorem rds_target (n : List UInt8) : ∀ (p f : Nat) (w : List UInt8), n.all tgt = true → (w = [] → ∀ c ∈ n.head?, c = 47) → w.length + n.length ≤ 512 → ((p + n.length : Nat) : Int) ≤ B.bound ∨ B.bound < 0 → Rds (mAt B .inTarget .no p f w k nm hs) n (mAt B .inTarget .no (p + n.length) f (w ++ n) k nm hs) := by
  induction n with
  | nil => intro p f w _ _ _ _; simp; exact .nil _
  | cons c r ih =>
    intro p f w ha hw hl hb
    rw [List.all_cons, Bool.and_eq_true] at ha
    rw [List.length_cons] at hb hl
    have h32 : ¬ c.toNat = 32 := fun e => by
      have e2 : c = 32 := UInt8.toNat_inj.1 e
      have := ha.1
      rw [e2] at this; revert this; decide
    have hd : takeDo .inTarget (mAt B .inTarget .no p f w k nm hs) c = ((.inTarget, .no), mAt B .inTarget .no p f (w ++ [c]) k nm hs) := by
      show inTarget _ c = _
      unfold inTarget
      rw [if_neg (fun h => by
        have h1 : w.length = 0 := h.1
        have h2 := hw (List.eq_nil_of_length_eq_zero h1) c (by simp)
        rw [h2] at h; exact h.2 (by decide)), if_neg h32, if_neg (by rw [ha.1]; decide), if_neg (by show ¬ w.length = 512; omega), keep_mAt hT]
      rfl
    refine rds_step (by show Tk.inTarget ≠ .no; decide) (mAt_bite hB (by rcases hb with hb | hb; exact .inl (by omega); exact .inr hb) hd) ?_
    have := ih (p + 1) f (w ++ [c]) ha.2 (fun e => by simp at e) (by rw [List.length_append]; simp only [List.length_cons, List.length_nil]; omega) (by rcases hb with hb | hb; exact .inl (by omega); exact .inr hb)
    rw [List.length_cons, show p + (r.length + 1) = p + 1 + r.length by omega, show w ++ c :: r = w ++ [c] ++ r by simp]
    exact this
/-- 'HTTP/1.1'. -/
theorem rds_version (p f : Nat) (t : Th) (hb : ((p + 8 : Nat) : Int) ≤ B.bound ∨ B.bound < 0) : Rds (mAt B .inVersion t p f [] k nm hs) wNewer (after (let o := thenDo t (mAt { B with newer := true } .inVersion t (p + 7) f wNewer k nm hs); o)) := by
  have one : ∀ (q : Nat) (w : List UInt8) (c : UInt8), q < p + 8 → form.getD w.length 0 = c ∨ form.getD w.length 0 = 48 ∧ dig c = true → (w ++ [c]).length < 8 → bite (mAt B .inVersion t q f w k nm hs) c = mAt B .inVersion t (q + 1) f (w ++ [c]) k nm hs := fun q w c hq hc hl => by
    refine mAt_bite hB (by rcases hb with hb | hb; exact .inl (by omega); exact .inr hb) (o := ((.inVersion, t), mAt B .inVersion t q f (w ++ [c]) k nm hs)) ?_
    show inVersion _ c = _
    unfold inVersion
    rw [if_neg (fun h => by
      have h1 : c ≠ form.getD w.length 0 := h.1
      rcases hc with hc | ⟨hc1, hc2⟩
      · exact h1 hc.symm
      · have h2 : form.getD w.length 0 ≠ 48 ∨ dig c = false := h.2
        rcases h2 with h2 | h2
        · exact h2 hc1
        · rw [hc2] at h2; cases h2), keep_mAt hT, if_pos (show (mAt B .inVersion t q f (w ++ [c]) k nm hs).word.length < 8 from hl)]
    rfl
  have last : bite (mAt B .inVersion t (p + 7) f [72, 84, 84, 80, 47, 49, 46] k nm hs) 49 = after (thenDo t (mAt { B with newer := true } .inVersion t (p + 7) f wNewer k nm hs)) := by
    refine mAt_bite hB (by rcases hb with hb | hb; exact .inl (by omega); exact .inr hb) ?_
    show inVersion _ 49 = _
    unfold inVersion
    rw [if_neg (fun h => by
      have h1 : (49 : UInt8) ≠ 48 := by decide
      have h2 : form.getD 7 0 ≠ 48 ∨ dig 49 = false := h.2
      rcases h2 with h2 | h2
      · exact h2 (by decide)
      · revert h2; decide), keep_mAt hT, if_neg (show ¬ (mAt B .inVersion t (p + 7) f ([72, 84, 84, 80, 47, 49, 46] ++ [49]) k nm hs).word.length < 8 from (by decide : ¬ ([72, 84, 84, 80, 47, 49, 46, 49] : List UInt8).length < 8)), if_neg (show ¬ ((mAt B .inVersion t (p + 7) f ([72, 84, 84, 80, 47, 49, 46] ++ [49]) k nm hs).word ≠ wOlder ∧ (mAt B .inVersion t (p + 7) f ([72, 84, 84, 80, 47, 49, 46] ++ [49]) k nm hs).word ≠ wNewer) from fun h => h.2 rfl)]
    rfl
  exact rds_step (by show Tk.inVersion ≠ .no; decide) (one p [] 72 (by omega) (.inl (by decide)) (by decide)) (rds_step (by show Tk.inVersion ≠ .no; decide) (one (p + 1) [72] 84 (by omega) (.inl (by decide)) (by decide)) (rds_step (by show Tk.inVersion ≠ .no; decide) (one (p + 2) [72, 84] 84 (by omega) (.inl (by decide)) (by decide)) (rds_step (by show Tk.inVersion ≠ .no; decide) (one (p + 3) [72, 84, 84] 80 (by omega) (.inl (by decide)) (by decide)) (rds_step (by show Tk.inVersion ≠ .no; decide) (one (p + 4) [72, 84, 84, 80] 47 (by omega) (.inl (by decide)) (by decide)) (rds_step (by show Tk.inVersion ≠ .no; decide) (one (p + 5) [72, 84, 84, 80, 47] 49 (by omega) (.inr (by decide)) (by decide)) (rds_step (by show Tk.inVersion ≠ .no; decide) (one (p + 6) [72, 84, 84, 80, 47, 49] 46 (by omega) (.inl (by decide)) (by decide)) (rds_step (by show Tk.inVersion ≠ .no; decide) last (.nil _))))))))
/-- Lines of headers. -/
def linesT (L : List (List UInt8 × List UInt8)) : List UInt8 := L.flatMap fun h => h.1 ++ [58, 32] ++ h.2 ++ [13, 10]
/-- A header that may be written so. -/
structure GoodH (h : List UInt8 × List UInt8) : Prop where
  n0 : h.1 ≠ []
  n : h.1.all tok = true
  v : h.2.all txt = true
  v0 : ∀ c ∈ h.2.head?, blank c = false
  tr : trimR h.2 = h.2
theorem rds_headers (L : List (List UInt8 × List UInt8)) : ∀ (p k : Nat) (nm : List UInt8) (hs : List (List UInt8 × List UInt8)), (∀ h ∈ L, GoodH h) → k + L.length ≤ 32 → ((p + (linesT L).length : Nat) : Int) ≤ B.bound ∨ B.bound < 0 →
    ∃ nm', Rds (mAt B .atLine .no p p [] k nm hs) (linesT L) (mAt B .atLine .no (p + (linesT L).length) (p + (linesT L).length) [] (k + L.length) nm' (hs ++ L.map fun h => (h.1.map sm, h.2))) := by
  induction L with
  | nil => intro p k nm hs _ _ _; exact ⟨nm, by simp [linesT]; exact .nil _⟩
  | cons h r ih =>
    intro p k nm hs hg hk hb
    have e : linesT (h :: r) = (h.1 ++ [58, 32] ++ h.2 ++ [13, 10]) ++ linesT r := rfl
    have el : (h.1 ++ [58, 32] ++ h.2 ++ [13, 10]).length = h.1.length + h.2.length + 4 := by simp only [List.length_append, List.length_cons, List.length_nil]; omega
    rw [List.length_cons] at hk
    rw [e, List.length_append, el] at hb
    have g := hg h (by simp)
    have h1 := rds_header hB hT (k := k) (nm := nm) (hs := hs) h.1 h.2 p g.n0 g.n g.v g.v0 g.tr (by omega) (by rcases hb with hb | hb; exact .inl (by omega); exact .inr hb)
    obtain ⟨nm', h2⟩ := ih (p + (h.1.length + h.2.length + 4)) (k + 1) (h.1.map sm) (hs ++ [(h.1.map sm, h.2)]) (fun x hx => hg x (List.mem_cons_of_mem _ hx)) (by omega) (by rcases hb with hb | hb; exact .inl (by omega); exact .inr hb)
    refine ⟨nm', ?_⟩
    rw [e, List.length_append, el, List.length_cons, List.map_cons]
    have := rds_app h1 h2
    rw [show p + (h.1.length + h.2.length + 4) + (linesT r).length = p + (h.1.length + h.2.length + 4 + (linesT r).length) by omega, show k + 1 + r.length = k + (r.length + 1) by omega, show hs ++ [(h.1.map sm, h.2)] ++ r.map (fun h => (h.1.map sm, h.2)) = hs ++ (h.1.map sm, h.2) :: r.map (fun h => (h.1.map sm, h.2)) by simp] at this
    exact this
/-- The head's end. -/
theorem rds_end (p : Nat) (hb : ((p + 2 : Nat) : Int) ≤ B.bound ∨ B.bound < 0) : Rds (mAt B .atLine .no p p [] k nm hs) [13, 10] (after (headEnds (mAt { B with bound := -1 } .lineFeed .emptyLineEnds (p + 1) p [] k [] hs))) := by
  have h1 : bite (mAt B .atLine .no p p [] k nm hs) 13 = mAt B .lineFeed .emptyLineEnds (p + 1) p [] k nm hs :=
    mAt_bite hB (by rcases hb with hb | hb; exact .inl (by omega); exact .inr hb) (o := ((.lineFeed, .emptyLineEnds), mAt B .atLine .no p p [] k nm hs)) rfl
  have h2 : bite (mAt B .lineFeed .emptyLineEnds (p + 1) p [] k nm hs) 10 = after (headEnds (mAt { B with bound := -1 } .lineFeed .emptyLineEnds (p + 1) p [] k [] hs)) := by
    refine mAt_bite hB (by rcases hb with hb | hb; exact .inl (by omega); exact .inr hb) ?_
    show lineFeed _ 10 = _
    unfold lineFeed
    rw [if_pos (by decide)]
    show emptyLineEnds _ = _
    unfold emptyLineEnds
    rw [if_neg (by show ¬ B.trailers = true; rw [hT]; exact Bool.false_ne_true)]
    rfl
  exact rds_step (by show Tk.atLine ≠ .no; decide) h1 (rds_step (by show Tk.lineFeed ≠ .no; decide) h2 (.nil _))
end
end Go.Wb
namespace Go.Wb
/-- A request behind its first line. -/
def reqB (p : Nat) (meth tg : List UInt8) : Msg := { newReq p with bound := p + 2048, method := meth, target := tg, newer := true }
theorem rds_reqline (p : Nat) (meth tg : List UInt8) (hm0 : meth ≠ []) (hm : meth.all tok = true) (ht0 : ∃ r, tg = 47 :: r) (ht : tg.all tgt = true) (htl : tg.length ≤ 512) (hl : meth.length + tg.length + 12 ≤ 2048) :
    Rds (newReq p) (meth ++ [32] ++ tg ++ [32] ++ wNewer ++ [13, 10]) (mAt (reqB p meth tg) .atLine .no (p + (meth.length + tg.length + 12)) (p + (meth.length + tg.length + 12)) [] 0 [] []) := by
  obtain ⟨c, r, rfl⟩ := List.exists_cons_of_ne_nil hm0
  rw [List.all_cons, Bool.and_eq_true] at hm
  rw [List.length_cons] at hl ⊢
  have h1 : bite (newReq p) c = mAt { newReq p with bound := p + 2048 } .inMethod .no (p + 1) 0 [c] 0 [] [] := by
    refine bite_of (m := newReq p) rfl (by show (p : Int) ≠ -1; omega) (o := ((.inMethod, .no), mAt { newReq p with bound := p + 2048 } .ahead .no p 0 [c] 0 [] [])) ?_
    show ahead _ c = _
    unfold ahead
    rw [if_neg (tok_not13 hm.1)]
    unfold inMethod
    rw [if_pos hm.1]
    rfl
  have h2 := rds_method (B := { newReq p with bound := p + 2048 }) rfl rfl (k := 0) (nm := []) (hs := []) r (p + 1) 0 [c] hm.2 (.inl (by show _ ≤ (p : Int) + 2048; omega))
  have h3 : bite (mAt { newReq p with bound := p + 2048 } .inMethod .no (p + 1 + r.length) 0 ([c] ++ r) 0 [] []) 32 = mAt { newReq p with bound := p + 2048, method := c :: r } .inTarget .no (p + 1 + r.length + 1) (p + 1 + r.length + 1) [] 0 [] [] := by
    refine mAt_bite (B := { newReq p with bound := p + 2048 }) rfl (.inl (by show _ < (p : Int) + 2048; omega)) (o := part { mAt { newReq p with bound := p + 2048 } .inMethod .no (p + 1 + r.length) 0 ([c] ++ r) 0 [] [] with method := c :: r } .inTarget) ?_
    show inMethod _ 32 = _
    unfold inMethod
    rw [if_neg (by decide), if_pos ⟨by decide, by show 0 < ([c] ++ r).length; simp⟩]
    rfl
  have h4 := rds_target (B := { newReq p with bound := p + 2048, method := c :: r }) rfl rfl (k := 0) (nm := []) (hs := []) tg (p + 1 + r.length + 1) (p + 1 + r.length + 1) [] ht (fun _ => by obtain ⟨x, rfl⟩ := ht0; simp) (by simpa using htl) (.inl (by show _ ≤ (p : Int) + 2048; omega))
  rw [List.nil_append] at h4
  have h5 : bite (mAt { newReq p with bound := p + 2048, method := c :: r } .inTarget .no (p + 1 + r.length + 1 + tg.length) (p + 1 + r.length + 1) tg 0 [] []) 32 = mAt { newReq p with bound := p + 2048, method := c :: r, target := tg } .inVersion .requestLineEnds (p + 1 + r.length + 1 + tg.length + 1) (p + 1 + r.length + 1 + tg.length + 1) [] 0 [] [] := by
    refine mAt_bite (B := { newReq p with bound := p + 2048, method := c :: r }) rfl (.inl (by show _ < (p : Int) + 2048; omega)) (o := ((.inVersion, .requestLineEnds), (part { mAt { newReq p with bound := p + 2048, method := c :: r } .inTarget .no (p + 1 + r.length + 1 + tg.length) (p + 1 + r.length + 1) tg 0 [] [] with target := tg } .inVersion).2)) ?_
    show inTarget _ 32 = _
    unfold inTarget
    rw [if_neg (by
      intro h
      have h1 : tg.length = 0 := h.1
      obtain ⟨x, rfl⟩ := ht0
      cases h1), if_pos (by decide)]
    rfl
  have h6 := rds_version (B := { newReq p with bound := p + 2048, method := c :: r, target := tg }) rfl rfl (k := 0) (nm := []) (hs := []) (p + 1 + r.length + 1 + tg.length + 1) (p + 1 + r.length + 1 + tg.length + 1) .requestLineEnds (.inl (by show _ ≤ (p : Int) + 2048; omega))
  have h7 : bite (mAt (reqB p (c :: r) tg) .lineEnd .headerLine (p + 1 + r.length + 1 + tg.length + 1 + 8) (p + 1 + r.length + 1 + tg.length + 1) wNewer 0 [] []) 13 = mAt (reqB p (c :: r) tg) .lineFeed .headerLine (p + 1 + r.length + 1 + tg.length + 1 + 9) (p + 1 + r.length + 1 + tg.length + 1) wNewer 0 [] [] :=
    mAt_bite (B := reqB p (c :: r) tg) rfl (.inl (by show _ < (p : Int) + 2048; omega)) (o := ((.lineFeed, .headerLine), mAt (reqB p (c :: r) tg) .lineEnd .headerLine (p + 1 + r.length + 1 + tg.length + 1 + 8) (p + 1 + r.length + 1 + tg.length + 1) wNewer 0 [] [])) rfl
  have h8 : bite (mAt (reqB p (c :: r) tg) .lineFeed .headerLine (p + 1 + r.length + 1 + tg.length + 1 + 9) (p + 1 + r.length + 1 + tg.length + 1) wNewer 0 [] []) 10 = mAt (reqB p (c :: r) tg) .atLine .no (p + 1 + r.length + 1 + tg.length + 1 + 10) (p + 1 + r.length + 1 + tg.length + 1 + 10) [] 0 [] [] :=
    mAt_bite (B := reqB p (c :: r) tg) rfl (.inl (by show _ < (p : Int) + 2048; omega)) (o := part (mAt (reqB p (c :: r) tg) .lineFeed .headerLine (p + 1 + r.length + 1 + tg.length + 1 + 9) (p + 1 + r.length + 1 + tg.length + 1) wNewer 0 [] []) .atLine) rfl
  rw [show p + (r.length + 1 + tg.length + 12) = p + 1 + r.length + 1 + tg.length + 1 + 10 by omega]
  show Rds _ (c :: (r ++ [32] ++ tg ++ [32] ++ wNewer ++ [13, 10])) _
  refine rds_step (by show Tk.ahead ≠ .no; decide) h1 ?_
  rw [show r ++ [32] ++ tg ++ [32] ++ wNewer ++ [13, 10] = r ++ (32 :: (tg ++ (32 :: (wNewer ++ [13, 10])))) by simp]
  exact rds_app h2 (rds_step (by show Tk.inMethod ≠ .no; decide) h3 (rds_app h4 (rds_step (by show Tk.inTarget ≠ .no; decide) h5 (rds_app h6 (rds_step (by show Tk.lineEnd ≠ .no; decide) h7 (rds_step (by show Tk.lineFeed ≠ .no; decide) h8 (.nil _)))))))
def helloL : List UInt8 := [71, 69, 84, 32, 47, 97, 32, 72, 84, 84, 80, 47, 49, 46, 49, 13, 10, 72, 111, 115, 116, 58, 32, 120, 13, 10, 13, 10]
/-- The laws' hello, wherever it begins. -/
theorem fd_hello (p : Nat) (r : List UInt8) : fd (newReq p) (helloL ++ r) = (⟨[71, 69, 84], [47, 97], [([104, 111, 115, 116], [120])], [], false⟩ :: (fd (newReq (p + 28)) r).1, (fd (newReq (p + 28)) r).2) := by
  have h1 := rds_reqline p [71, 69, 84] [47, 97] (by decide) (by decide) ⟨_, rfl⟩ (by decide) (by decide) (by decide)
  have h2 := rds_header (B := reqB p [71, 69, 84] [47, 97]) rfl rfl (k := 0) (nm := []) (hs := []) [72, 111, 115, 116] [120] (p + 17) (by decide) (by decide) (by decide) (by decide) (by decide) (by decide) (.inl (by show ((p + 17 + 9 : Nat) : Int) ≤ (p : Int) + 2048; omega))
  have h3 := rds_end (B := reqB p [71, 69, 84] [47, 97]) rfl rfl (k := 1) (nm := [104, 111, 115, 116]) (hs := [([104, 111, 115, 116], [120])]) (p + 26) (.inl (by show ((p + 26 + 2 : Nat) : Int) ≤ (p : Int) + 2048; omega))
  have h := rds_app (rds_app h1 h2) h3
  have e : helloL = [71, 69, 84] ++ [32] ++ [47, 97] ++ [32] ++ wNewer ++ [13, 10] ++ ([72, 111, 115, 116] ++ [58, 32] ++ [120] ++ [13, 10]) ++ [13, 10] := rfl
  rw [e, rds_fd h (by simp)]
  rfl
end Go.Wb
namespace Go.Wb
/-- A digit. -/
theorem dig_of : ∀ d : Nat, d < 10 → dig (UInt8.ofNat (48 + d)) = true ∧ (UInt8.ofNat (48 + d)).toNat - 48 = d := by decide
theorem dec_dig (u : Nat) : (Lib.decDigits u).all dig = true := by
  induction u using Nat.strongRecOn with
  | _ u ih =>
    rw [Lib.decDigits]
    split
    · rename_i h
      rw [List.all_cons, List.all_nil, Bool.and_true]
      exact (dig_of u h).1
    · rename_i h
      rw [List.all_append, ih (u / 10) (by omega)]
      rw [List.all_cons, List.all_nil, Bool.and_true, Bool.true_and]
      exact (dig_of (u % 10) (by omega)).1
theorem dec_ne (u : Nat) : Lib.decDigits u ≠ [] := by
  rw [Lib.decDigits]
  split <;> simp
theorem dec_num (most : Nat) (u : Nat) (h : u ≤ most) : numberOf most (Lib.decDigits u) = u := by
  induction u using Nat.strongRecOn with
  | _ u ih =>
    rw [Lib.decDigits]
    split
    · rename_i h1
      unfold numberOf
      simp only [List.foldl_cons, List.foldl_nil, (dig_of u h1).2]
      unfold grown
      rw [if_neg (by omega)]; omega
    · rename_i h1
      have e := ih (u / 10) (by omega) (by omega)
      unfold numberOf at e ⊢
      rw [List.foldl_append, e]
      simp only [List.foldl_cons, List.foldl_nil, (dig_of (u % 10) (by omega)).2]
      unfold grown
      rw [if_neg (by omega)]; omega
theorem dec_three (u : Nat) (h1 : 100 ≤ u) (h2 : u < 1000) : Lib.decDigits u = [UInt8.ofNat (48 + u / 100), UInt8.ofNat (48 + u / 10 % 10), UInt8.ofNat (48 + u % 10)] := by
  rw [Lib.decDigits, dif_neg (by omega), Lib.decDigits, dif_neg (by omega), Lib.decDigits, dif_pos (by omega)]
  rw [show u / 10 / 10 = u / 100 by omega]
  rfl
theorem dig_txt {c : UInt8} (h : dig c = true) : txt c = true ∧ blank c = false := by
  unfold dig at h
  simp only [Bool.and_eq_true, decide_eq_true_eq] at h
  constructor
  · unfold txt
    have : (decide (32 ≤ c.toNat) && decide (c.toNat ≤ 126)) = true := by simp; omega
    rw [this]; simp
  · unfold blank
    have e1 : (c.toNat == 32) = false := by simp; omega
    have e2 : (c.toNat == 9) = false := by simp; omega
    rw [e1, e2]; rfl
/-- A text without blanks stays as it is. -/
theorem trimR_none {l : List UInt8} (h : ∀ c ∈ l, blank c = false) : trimR l = l := by
  have key : ∀ r : List UInt8, (∀ c ∈ r, blank c = false) → r.dropWhile (([32, 9] : List UInt8).contains ·) = r := by
    intro r hr
    cases r with
    | nil => rfl
    | cons c r =>
      have hc := hr c (by simp)
      have : (([32, 9] : List UInt8).contains c) = false := by
        rw [Bool.eq_false_iff]
        intro e
        have : c = 32 ∨ c = 9 := by simpa using e
        rcases this with rfl | rfl <;> revert hc <;> decide
      rw [List.dropWhile_cons, this]; rfl
  unfold trimR Lib.trimRightS
  rw [key l.reverse (fun c hc => h c (List.mem_reverse.1 hc)), List.reverse_reverse]
section
variable {B : Msg} (hB : B.left = 0) (hT : B.trailers = false) {k : Nat} {nm : List UInt8} {hs : List (List UInt8 × List UInt8)}
include hB
/-- A reason goes on. -/
theorem rds_reason (f : Nat) (w : List UInt8) (t : List UInt8) : ∀ p : Nat, t.all txt = true → ((p + t.length : Nat) : Int) ≤ B.bound ∨ B.bound < 0 → Rds (mAt B .inReason .no p f w k nm hs) t (mAt B .inReason .no (p + t.length) f w k nm hs) := by
  induction t with
  | nil => intro p _ _; exact .nil _
  | cons c r ih =>
    intro p ha hb
    rw [List.all_cons, Bool.and_eq_true] at ha
    rw [List.length_cons] at hb
    have h13 : ¬ c.toNat = 13 := fun e => by
      have e2 : c = 13 := UInt8.toNat_inj.1 e
      have := ha.1
      rw [e2] at this; revert this; decide
    have hd : takeDo .inReason (mAt B .inReason .no p f w k nm hs) c = ((.inReason, .no), mAt B .inReason .no p f w k nm hs) := by
      show inReason _ c = _
      unfold inReason
      rw [if_neg h13, if_pos ha.1]
      rfl
    refine rds_step (by show Tk.inReason ≠ .no; decide) (mAt_bite hB (by rcases hb with hb | hb; exact .inl (by omega); exact .inr hb) hd) ?_
    rw [List.length_cons, show p + (r.length + 1) = p + 1 + r.length by omega]
    exact ih (p + 1) ha.2 (by rcases hb with hb | hb; exact .inl (by omega); exact .inr hb)
end
/-- A response behind its first line. -/
def resB (st : Nat) : Msg := { newRes with newer := true, status := st }
def stLine (st : Nat) (reas : List UInt8) : List UInt8 := wNewer ++ [32] ++ Lib.decDigits st ++ [32] ++ reas ++ [13, 10]
theorem rds_stline (st : Nat) (reas : List UInt8) (h1 : 200 ≤ st) (h2 : st ≤ 599) (hr : reas.all txt = true) (hl : reas.length ≤ 100) :
    Rds newRes (stLine st reas) (mAt (resB st) .atLine .no (reas.length + 15) (reas.length + 15) [] 0 [] []) := by
  have v := rds_version (B := newRes) rfl rfl (k := 0) (nm := []) (hs := []) 0 0 .statusFollows (.inl (by show ((0 + 8 : Nat) : Int) ≤ 2048; omega))
  have s1 : bite (mAt { newRes with newer := true } .blankA .no 8 0 wNewer 0 [] []) 32 = mAt { newRes with newer := true } .inStatus .no 9 9 [] 0 [] [] :=
    mAt_bite (B := { newRes with newer := true }) rfl (.inl (by show ((8 : Nat) : Int) < 2048; omega)) (o := part (mAt { newRes with newer := true } .blankA .no 8 0 wNewer 0 [] []) .inStatus) rfl
  obtain ⟨g1, e1⟩ := dig_of (st / 100) (by omega)
  obtain ⟨g2, e2⟩ := dig_of (st / 10 % 10) (by omega)
  obtain ⟨g3, e3⟩ := dig_of (st % 10) (by omega)
  have d1 : bite (mAt { newRes with newer := true } .inStatus .no 9 9 [] 0 [] []) (UInt8.ofNat (48 + st / 100)) = mAt { newRes with newer := true, status := st / 100 } .inStatus .no 10 9 [] 0 [] [] := by
    refine mAt_bite (B := { newRes with newer := true }) rfl (.inl (by show ((9 : Nat) : Int) < 2048; omega)) (o := ((.inStatus, .no), mAt { newRes with newer := true, status := st / 100 } .inStatus .no 9 9 [] 0 [] [])) ?_
    show inStatus _ _ = _
    unfold inStatus
    rw [if_neg (by rw [g1]; decide), if_pos (by show 9 < 9 + 2; omega), e1]
    show ((Tk.inStatus, Th.no), mAt { newRes with newer := true, status := 0 * 10 + st / 100 } .inStatus .no 9 9 [] 0 [] []) = _
    rw [Nat.zero_mul, Nat.zero_add]
  have d2 : bite (mAt { newRes with newer := true, status := st / 100 } .inStatus .no 10 9 [] 0 [] []) (UInt8.ofNat (48 + st / 10 % 10)) = mAt { newRes with newer := true, status := st / 10 } .inStatus .no 11 9 [] 0 [] [] := by
    refine mAt_bite (B := { newRes with newer := true, status := st / 100 }) rfl (.inl (by show ((10 : Nat) : Int) < 2048; omega)) (o := ((.inStatus, .no), mAt { newRes with newer := true, status := st / 10 } .inStatus .no 10 9 [] 0 [] [])) ?_
    show inStatus _ _ = _
    unfold inStatus
    rw [if_neg (by rw [g2]; decide), if_pos (by show 10 < 9 + 2; omega), e2]
    show ((Tk.inStatus, Th.no), mAt { newRes with newer := true, status := st / 100 * 10 + st / 10 % 10 } .inStatus .no 10 9 [] 0 [] []) = _
    rw [show st / 100 * 10 + st / 10 % 10 = st / 10 by omega]
  have d3 : bite (mAt { newRes with newer := true, status := st / 10 } .inStatus .no 11 9 [] 0 [] []) (UInt8.ofNat (48 + st % 10)) = mAt (resB st) .blankB .no 12 9 [] 0 [] [] := by
    refine mAt_bite (B := { newRes with newer := true, status := st / 10 }) rfl (.inl (by show ((11 : Nat) : Int) < 2048; omega)) (o := ((.blankB, .no), mAt (resB st) .inStatus .no 11 9 [] 0 [] [])) ?_
    show inStatus _ _ = _
    unfold inStatus
    rw [if_neg (by rw [g3]; decide), if_neg (by show ¬ 11 < 9 + 2; omega), e3]
    show (if 200 ≤ st / 10 * 10 + st % 10 ∧ st / 10 * 10 + st % 10 ≤ 599 then ((Tk.blankB, Th.no), mAt { newRes with newer := true, status := st / 10 * 10 + st % 10 } .inStatus .no 11 9 [] 0 [] []) else _) = _
    rw [show st / 10 * 10 + st % 10 = st by omega, if_pos ⟨h1, h2⟩]
    rfl
  have s2 : bite (mAt (resB st) .blankB .no 12 9 [] 0 [] []) 32 = mAt (resB st) .inReason .no 13 9 [] 0 [] [] :=
    mAt_bite (B := resB st) rfl (.inl (by show ((12 : Nat) : Int) < 2048; omega)) (o := ((.inReason, .no), mAt (resB st) .blankB .no 12 9 [] 0 [] [])) rfl
  have r := rds_reason (B := resB st) rfl (k := 0) (nm := []) (hs := []) 9 [] reas 13 hr (.inl (by show ((13 + reas.length : Nat) : Int) ≤ 2048; omega))
  have s3 : bite (mAt (resB st) .inReason .no (13 + reas.length) 9 [] 0 [] []) 13 = mAt (resB st) .lineFeed .headerLine (13 + reas.length + 1) 9 [] 0 [] [] :=
    mAt_bite (B := resB st) rfl (.inl (by show ((13 + reas.length : Nat) : Int) < 2048; omega)) (o := ((.lineFeed, .headerLine), mAt (resB st) .inReason .no (13 + reas.length) 9 [] 0 [] [])) rfl
  have s4 : bite (mAt (resB st) .lineFeed .headerLine (13 + reas.length + 1) 9 [] 0 [] []) 10 = mAt (resB st) .atLine .no (13 + reas.length + 2) (13 + reas.length + 2) [] 0 [] [] :=
    mAt_bite (B := resB st) rfl (.inl (by show ((13 + reas.length + 1 : Nat) : Int) < 2048; omega)) (o := part (mAt (resB st) .lineFeed .headerLine (13 + reas.length + 1) 9 [] 0 [] []) .atLine) rfl
  rw [show reas.length + 15 = 13 + reas.length + 2 by omega]
  unfold stLine
  rw [dec_three st (by omega) (by omega), show wNewer ++ [32] ++ [UInt8.ofNat (48 + st / 100), UInt8.ofNat (48 + st / 10 % 10), UInt8.ofNat (48 + st % 10)] ++ [32] ++ reas ++ [13, 10] = wNewer ++ (32 :: UInt8.ofNat (48 + st / 100) :: UInt8.ofNat (48 + st / 10 % 10) :: UInt8.ofNat (48 + st % 10) :: 32 :: (reas ++ [13, 10])) by simp]
  exact rds_app v (rds_step (by show Tk.blankA ≠ .no; decide) s1 (rds_step (by show Tk.inStatus ≠ .no; decide) d1 (rds_step (by show Tk.inStatus ≠ .no; decide) d2 (rds_step (by show Tk.inStatus ≠ .no; decide) d3 (rds_step (by show Tk.blankB ≠ .no; decide) s2 (rds_app r (rds_step (by show Tk.inReason ≠ .no; decide) s3 (rds_step (by show Tk.lineFeed ≠ .no; decide) s4 (.nil _)))))))))
end Go.Wb
namespace Go.Wb
theorem frame_none {m : Msg} (hs : m.status ≠ 0) (hc : vals m wCoding = []) (hl : vals m wLength = []) : frame m = (0, false, 0) := by
  unfold frame
  rw [if_neg (fun h => hs h.1), hc, hl]
  rfl
theorem frame_len {m : Msg} {n : Nat} (hs : m.status ≠ 0) (hc : vals m wCoding = []) (hl : vals m wLength = [Lib.decDigits n]) (hn : n ≤ m.most) : frame m = (n, false, 0) := by
  have hnum : isNumber (Lib.decDigits n) = true := by
    unfold isNumber
    rw [dec_dig]
    cases h : Lib.decDigits n with
    | nil => exact absurd h (dec_ne n)
    | cons _ _ => rfl
  unfold frame
  rw [if_neg (fun h => hs h.1), hc, hl]
  rw [if_neg (by simp), if_neg (by simp), if_neg (by simp), if_neg (by simp [hnum])]
  show (if m.most < numberOf m.most (Lib.decDigits n) then _ else _) = _
  rw [dec_num m.most n hn, if_neg (by omega)]
  show (numberOf m.most (Lib.decDigits n), false, 0) = _
  rw [dec_num m.most n hn]
theorem rds_response (st : Nat) (reas : List UInt8) (H : List (List UInt8 × List UInt8)) (body : List UInt8) (last : Bool) (h1 : 200 ≤ st) (h2 : st ≤ 599) (hr : reas.all txt = true) (hrl : reas.length ≤ 100) (hH : H.length ≤ 32) (hg : ∀ h ∈ H, GoodH h ∧ h.1.map sm = h.1) (hl : reas.length + 15 + (linesT H).length + 2 ≤ 2048)
    (hf : ∀ m : Msg, m.status = st → m.headers = H → m.most = 999999999 → frame m = (body.length, false, 0)) (hla : ∀ m : Msg, m.headers = H → m.newer = true → isLast m = last) (hbare : bare st = true → body = []) :
    ∃ m', Rds newRes (stLine st reas ++ linesT H ++ [13, 10] ++ body) m' ∧ whole m' = true ∧ m'.status = st ∧ m'.headers = H ∧ m'.body = body ∧ m'.last = last := by
  have a1 := rds_stline st reas h1 h2 hr hrl
  obtain ⟨nm', a2⟩ := rds_headers (B := resB st) rfl rfl H (reas.length + 15) 0 [] [] (fun h hh => (hg h hh).1) (by omega) (.inl (by show _ ≤ (2048 : Int); omega))
  have hmap : H.map (fun h => (h.1.map sm, h.2)) = H := by
    have : ∀ h ∈ H, (fun h : List UInt8 × List UInt8 => (h.1.map sm, h.2)) h = h := fun h hh => by
      show (h.1.map sm, h.2) = h
      rw [(hg h hh).2]
    exact (List.map_congr_left this).trans (List.map_id _)
  rw [List.nil_append, hmap, Nat.zero_add] at a2
  obtain ⟨q, hq⟩ : ∃ q, reas.length + 15 + (linesT H).length = q := ⟨_, rfl⟩
  rw [hq] at a2
  have a3 := rds_end (B := resB st) rfl rfl (k := H.length) (nm := nm') (hs := H) q (.inl (by show ((q + 2 : Nat) : Int) ≤ (2048 : Int); omega))
  have hfr := hf (mAt { resB st with bound := -1 } .lineFeed .emptyLineEnds (q + 1) q [] H.length [] H) rfl rfl rfl
  have hlas := hla (mAt { resB st with bound := -1 } .lineFeed .emptyLineEnds (q + 1) q [] H.length [] H) rfl rfl
  have a123 := rds_app (rds_app a1 a2) a3
  by_cases hb : bare st = true
  · have e : headEnds (mAt { resB st with bound := -1 } .lineFeed .emptyLineEnds (q + 1) q [] H.length [] H) = ((.no, .no), { mAt { resB st with bound := -1 } .lineFeed .emptyLineEnds (q + 1) q [] H.length [] H with last := last }) := by
      unfold headEnds
      rw [hfr]
      rw [if_neg (fun h => h rfl), if_pos (show bare (mAt { resB st with bound := -1 } .lineFeed .emptyLineEnds (q + 1) q [] H.length [] H).status = true from hb), hlas]
    rw [e] at a123
    refine ⟨_, by rw [hbare hb, List.append_nil]; exact a123, rfl, rfl, rfl, ?_, rfl⟩
    rw [hbare hb]
    rfl
  · have e : headEnds (mAt { resB st with bound := -1 } .lineFeed .emptyLineEnds (q + 1) q [] H.length [] H) = ((.no, .no), { mAt { resB st with bound := -1 } .lineFeed .emptyLineEnds (q + 1) q [] H.length [] H with last := last, left := body.length }) := by
      unfold headEnds
      rw [hfr]
      rw [if_neg (fun h => h rfl), if_neg (show ¬ bare (mAt { resB st with bound := -1 } .lineFeed .emptyLineEnds (q + 1) q [] H.length [] H).status = true from hb), hlas, if_neg Bool.false_ne_true]
    rw [e] at a123
    have a4 := rds_fill (m := after ((.no, .no), { mAt { resB st with bound := -1 } .lineFeed .emptyLineEnds (q + 1) q [] H.length [] H with last := last, left := body.length })) body (Nat.le_refl _)
    refine ⟨_, rds_app a123 a4, ?_, rfl, rfl, rfl, rfl⟩
    unfold whole over
    show ((Tk.no == Tk.no && (body.length - body.length == 0)) && (0 == 0)) = true
    rw [Nat.sub_self]
    rfl
/-- Read, whatever stands behind it; of a beginning nothing is told. -/
theorem rd_response {m' : Msg} {l : List UInt8} (h : Rds newRes l m') (hw : whole m' = true) (r : List UInt8) : rd newRes (l ++ r) = (m', l.length) := by
  rw [rds_rd h]
  have ho : over m' = true := by unfold whole at hw; simp only [Bool.and_eq_true] at hw; exact hw.1
  have e : rd m' r = (m', 0) := by
    cases r with
    | nil => rfl
    | cons c r => show (if over m' then _ else _) = _; rw [if_pos ho]
  rw [e]
  rfl
theorem rd_begin {m' : Msg} {l : List UInt8} (h : Rds newRes l m') (k : Nat) (hk : k < l.length) : whole (rd newRes (l.take k)).1 = false ∧ (rd newRes (l.take k)).1.fErr = 0 := by
  obtain ⟨m1, g1, g2⟩ := rds_part h k hk
  have e := rds_rd g1 []
  rw [List.append_nil] at e
  rw [e]
  show whole m1 = false ∧ m1.fErr = 0
  refine ⟨by unfold whole; rw [g2]; rfl, ?_⟩
  -- it is no fault, for a fault is over
  have key : ∀ {m m1 : Msg} {l : List UInt8} {N : Nat}, Rds m l m1 → Fi m N → Fi m1 (N + l.length) := by
    intro m m1 l N hr
    induction hr generalizing N with
    | nil => intro h; exact h
    | @cons m m' c r ho _ ih =>
      intro hfi
      have := ih (hfi.bite ho c)
      rw [List.length_cons, show N + (r.length + 1) = N + 1 + r.length by omega]
      exact this
  have hfi : Fi newRes 0 := ⟨good_newRes, Nat.le_refl _, Nat.le_refl _, .inl rfl⟩
  rcases (key g1 hfi).err with e1 | ⟨e1, _⟩
  · exact e1
  · rw [g2] at e1; cases e1
end Go.Wb
namespace Go.Wb
theorem dropWhile_len {α : Type} (p : α → Bool) (l : List α) : (l.dropWhile p).length ≤ l.length := by
  induction l with
  | nil => exact Nat.le_refl _
  | cons a r ih => rw [List.dropWhile_cons]; split; exact Nat.le_succ_of_le ih; exact Nat.le_refl _
theorem dropWhile_all {α : Type} {p : α → Bool} {l : List α} (h : (l.dropWhile p).length = l.length) : l.dropWhile p = l ∧ ∀ c ∈ l.head?, p c = false := by
  cases l with
  | nil => exact ⟨rfl, by simp⟩
  | cons a r =>
    rw [List.dropWhile_cons] at h ⊢
    cases hp : p a with
    | true =>
      rw [hp] at h
      have := dropWhile_len p r
      rw [if_pos rfl, List.length_cons] at h
      omega
    | false => exact ⟨rfl, by simp [hp]⟩
theorem blank_mem (c : UInt8) : (([32, 9] : List UInt8).contains c) = blank c := by
  unfold blank
  have e1 : (c.toNat == 32) = (c == 32) := by
    by_cases h : c = 32
    · subst h; rfl
    · have h2 : ¬ c.toNat = 32 := fun e => h (UInt8.toNat_inj.1 e)
      have a1 : (c.toNat == 32) = false := by simpa using h2
      have a2 : (c == 32) = false := by simpa using h
      rw [a1, a2]
  have e2 : (c.toNat == 9) = (c == 9) := by
    by_cases h : c = 9
    · subst h; rfl
    · have h2 : ¬ c.toNat = 9 := fun e => h (UInt8.toNat_inj.1 e)
      have a1 : (c.toNat == 9) = false := by simpa using h2
      have a2 : (c == 9) = false := by simpa using h
      rw [a1, a2]
  rw [e1, e2]
  simp
  by_cases h1 : c = 32 <;> by_cases h2 : c = 9 <;> simp [h1, h2]
theorem trim_same {v : List UInt8} (h : trim v = v) : trimR v = v ∧ ∀ c ∈ v.head?, blank c = false := by
  have h1 : (trimR v).length ≤ v.length := trimR_len v
  have h2 : (trim v).length ≤ (trimR v).length := by
    show (Lib.trimLeftS (Lib.trimRightS v [32, 9]) [32, 9]).length ≤ _
    unfold Lib.trimLeftS
    exact dropWhile_len _ _
  rw [h] at h2
  have h3 : trimR v = v := by
    have e : (v.reverse.dropWhile (([32, 9] : List UInt8).contains ·)).length = v.reverse.length := by
      have : (trimR v).length = v.length := by omega
      unfold trimR Lib.trimRightS at this
      rw [List.length_reverse] at this ⊢
      exact this
    unfold trimR Lib.trimRightS
    rw [(dropWhile_all e).1, List.reverse_reverse]
  refine ⟨h3, ?_⟩
  have h4 : Lib.trimLeftS v [32, 9] = v := by
    have : Lib.trimLeftS (trimR v) [32, 9] = v := h
    rw [h3] at this
    exact this
  have h5 : (v.dropWhile (([32, 9] : List UInt8).contains ·)).length = v.length := by
    have := congrArg List.length h4
    unfold Lib.trimLeftS at this
    exact this
  intro c hc
  rw [← blank_mem]
  exact (dropWhile_all h5).2 c hc
theorem may_good {h : List UInt8 × List UInt8} (hm : mayH h = true) : GoodH h ∧ h.1.map sm = h.1 ∧ h.1 ≠ sCL ∧ h.1 ≠ sTE ∧ h.1 ≠ sCo := by
  unfold mayH isTok isVal at hm
  simp only [Bool.and_eq_true, Bool.not_eq_true', beq_iff_eq, beq_eq_false_iff_ne] at hm
  obtain ⟨⟨⟨⟨⟨a, b⟩, c⟩, d1, d2⟩, e⟩, f1, f2⟩ := hm
  obtain ⟨g1, g2⟩ := trim_same f2
  refine ⟨⟨?_, d2, f1, g2, g1⟩, e, a, b, c⟩
  intro e0
  rw [e0] at d1
  cases d1
theorem reason_txt (n : Int) : (reason n).all txt = true := by
  have h : ∀ (c : Prop) [Decidable c] (a b : List UInt8), a.all txt = true → b.all txt = true → (if c then a else b).all txt = true := fun c _ a b ha hb => by split; exact ha; exact hb
  unfold reason
  repeat (refine h _ _ _ (by decide) ?_)
  decide
theorem vals_app (A B : List (List UInt8 × List UInt8)) (nm : List UInt8) : (((A ++ B).filter fun h => h.1 == nm).map (·.2)) = ((A.filter fun h => h.1 == nm).map (·.2)) ++ ((B.filter fun h => h.1 == nm).map (·.2)) := by
  rw [List.filter_append, List.map_append]
theorem vals_no {A : List (List UInt8 × List UInt8)} {nm : List UInt8} (h : ∀ x ∈ A, x.1 ≠ nm) : ((A.filter fun h => h.1 == nm).map (·.2)) = [] := by
  rw [List.filter_eq_nil_iff.2 (fun x hx => by simpa using h x hx)]
  rfl
/-- What is written is read. -/
theorem resp_read {st : Int} {L : List (List UInt8 × List UInt8)} {body : List UInt8} {last : Bool} (hm : mayPrint st L body = true) (hok : printedOk (prLine Lib.itoa st) (prHeads Lib.itoa st L body last)) (hbl : body.length ≤ 999999999) :
    ∃ m', Rds newRes (printedT (prLine Lib.itoa st) (prHeads Lib.itoa st L body last) body) m' ∧ whole m' = true ∧ (m'.status : Int) = st ∧ m'.headers = prHeads Lib.itoa st L body last ∧ m'.body = body ∧ m'.last = last := by
  unfold mayPrint at hm
  simp only [Bool.and_eq_true, Bool.not_eq_true'] at hm
  obtain ⟨⟨ho, hbr⟩, hms⟩ := hm
  have hst : 200 ≤ st ∧ st ≤ 599 := by simpa [okStI] using ho
  obtain ⟨n, rfl⟩ : ∃ n : Nat, st = (n : Int) := ⟨st.toNat, by omega⟩
  have hbare : bareI (n : Int) = bare n := by
    unfold bareI bare
    have e1 : ((n : Int) == 204) = (n == 204) := by
      by_cases h : n = 204
      · subst h; rfl
      · have a1 : ((n : Int) == 204) = false := by simp; omega
        have a2 : (n == 204) = false := by simpa using h
        rw [a1, a2]
    have e2 : ((n : Int) == 304) = (n == 304) := by
      by_cases h : n = 304
      · subst h; rfl
      · have a1 : ((n : Int) == 304) = false := by simp; omega
        have a2 : (n == 304) = false := by simpa using h
        rw [a1, a2]
    rw [e1, e2]
  have hit : ∀ k : Nat, Lib.itoa (k : Int) = Lib.decDigits k := Lib.itoa_nonneg
  have hL : ∀ h ∈ L, GoodH h ∧ h.1.map sm = h.1 ∧ h.1 ≠ sCL ∧ h.1 ≠ sTE ∧ h.1 ≠ sCo := fun h hh => may_good (List.all_eq_true.1 hms h hh)
  have hH : prHeads Lib.itoa n L body last = L ++ lenH Lib.itoa n body ++ (if last then [(sCo, wClose)] else []) := rfl
  have hlen : lenH Lib.itoa n body = if bare n then [] else [(sCL, Lib.decDigits body.length)] := by unfold lenH; rw [hbare, hit]
  have gCL : GoodH (sCL, Lib.decDigits body.length) := ⟨(by decide : sCL ≠ []), (by decide : sCL.all tok = true), List.all_eq_true.2 fun c hc => (dig_txt (List.all_eq_true.1 (dec_dig _) c hc)).1, fun c hc => (dig_txt (List.all_eq_true.1 (dec_dig body.length) c (List.mem_of_mem_head? hc))).2, trimR_none fun c hc => (dig_txt (List.all_eq_true.1 (dec_dig body.length) c hc)).2⟩
  have gCo : GoodH (sCo, wClose) := ⟨by decide, by decide, by decide, by decide, trimR_none (by decide)⟩
  have hin : ∀ h ∈ prHeads Lib.itoa n L body last, GoodH h ∧ h.1.map sm = h.1 := fun h hh => by
    rw [hH, hlen] at hh
    rcases List.mem_append.1 hh with hh | hh
    · rcases List.mem_append.1 hh with hh | hh
      · exact ⟨(hL h hh).1, (hL h hh).2.1⟩
      · split at hh
        · cases hh
        · rw [List.mem_singleton.1 hh]; exact ⟨gCL, by show sCL.map sm = sCL; decide⟩
    · split at hh
      · rw [List.mem_singleton.1 hh]; exact ⟨gCo, by show sCo.map sm = sCo; decide⟩
      · cases hh
  have eline : prLine Lib.itoa n ++ [13, 10] = stLine n (reason n) := by
    unfold prLine stLine
    rw [hit]
    rfl
  have elen : (stLine n (reason n)).length = (reason n).length + 15 := by
    unfold stLine
    rw [dec_three n (by omega) (by omega)]
    simp [wNewer]
  have hsz : (reason n).length + 15 + (linesT (prHeads Lib.itoa n L body last)).length + 2 ≤ 2048 := by
    have h2 := hok.2
    have h3 : headSize (prLine Lib.itoa n) (prHeads Lib.itoa n L body last) = (prLine Lib.itoa n).length + 4 + (linesT (prHeads Lib.itoa n L body last)).length := by
      unfold headSize
      rw [show (linesT (prHeads Lib.itoa n L body last)).length = _ from headText_len _]
    have h4 := congrArg List.length eline
    rw [List.length_append, elen] at h4
    simp only [List.length_cons, List.length_nil] at h4
    omega
  have hvC : ∀ m : Msg, m.headers = prHeads Lib.itoa n L body last → vals m wCoding = [] := fun m e => by
    unfold vals
    rw [e, hH, hlen]
    refine vals_no fun x hx => ?_
    rcases List.mem_append.1 hx with hx | hx
    · rcases List.mem_append.1 hx with hx | hx
      · exact (hL x hx).2.2.2.1
      · split at hx
        · cases hx
        · rw [List.mem_singleton.1 hx]; exact (by decide : sCL ≠ wCoding)
    · split at hx
      · rw [List.mem_singleton.1 hx]; decide
      · cases hx
  have hvL : ∀ m : Msg, m.headers = prHeads Lib.itoa n L body last → vals m wLength = if bare n then [] else [Lib.decDigits body.length] := fun m e => by
    unfold vals
    rw [e, hH, hlen, vals_app, vals_app, vals_no (A := L) (nm := wLength) (fun x hx => (hL x hx).2.2.1)]
    cases last <;> cases bare n <;> rfl
  have hvO : ∀ m : Msg, m.headers = prHeads Lib.itoa n L body last → vals m wConn = if last then [wClose] else [] := fun m e => by
    unfold vals
    rw [e, hH, hlen, vals_app, vals_app, vals_no (A := L) (nm := wConn) (fun x hx => (hL x hx).2.2.2.2)]
    cases last <;> cases bare n <;> rfl
  obtain ⟨m', r1, r2, r3, r4, r5, r6⟩ := rds_response n (reason n) (prHeads Lib.itoa n L body last) body last (by omega) (by omega) (reason_txt n) (by have := reason_len n; omega) hok.1 hin hsz (fun m e1 e2 e3 => by
    by_cases hb : bare n = true
    · have e0 : body = [] := by
        rw [hbare, hb, Bool.true_and] at hbr
        have : ¬ 0 < body.length := by simpa using hbr
        exact List.eq_nil_of_length_eq_zero (by omega)
      have := frame_none (m := m) (by omega) (hvC m e2) (by rw [hvL m e2, if_pos hb])
      rw [this, e0]; rfl
    · exact frame_len (by omega) (hvC m e2) (by rw [hvL m e2, if_neg hb]) (by omega)) (fun m e1 e2 => by
    unfold isLast
    rw [if_pos e2, hvO m e1]
    cases last
    · rfl
    · show hasItem [wClose] wClose = true
      kernel_rfl) (fun hb => by
    rw [hbare, hb, Bool.true_and] at hbr
    have : ¬ 0 < body.length := by simpa using hbr
    exact List.eq_nil_of_length_eq_zero (by omega))
  refine ⟨m', ?_, r2, by rw [r3], r4, r5, r6⟩
  have e : printedT (prLine Lib.itoa n) (prHeads Lib.itoa n L body last) body = stLine n (reason n) ++ linesT (prHeads Lib.itoa n L body last) ++ [13, 10] ++ body := by
    unfold printedT
    rw [← eline]
    rfl
  rw [e]
  exact r1
end Go.Wb
