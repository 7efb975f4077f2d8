/-
  Laid together by packg.py of WwA WwB WwC WwD WwE.
-/
import Derived.Test.YtogimcdjllhkcaaGreatDoorYi
import Derived.Test.YtogimcdjllhkcaaGreatDoorXr
import Derived.Test.YtogimcdjllhkcaaGreatDoorPvY
import Derived.Test.YtogimcdjllhkcaaGreatDoorPvE
import Derived.Test.YtogimcdjllhkcaaGreatDoorPvH
import Derived.Laws.IdiomStrings
import Derived.Lib.ItoaLen
namespace Go.Wb
theorem blank_all : ∀ n, n < 256 → ([32, 9] : List UInt8).contains (UInt8.ofNat n) = blank (UInt8.ofNat n) := by decide +kernel
theorem blank_is (c : UInt8) : ([32, 9] : List UInt8).contains c = blank c := by
  have h := blank_all c.toNat c.toNat_lt
  rwa [UInt8.ofNat_toNat] at h
theorem dw_head {p : UInt8 → Bool} : ∀ {x l : List UInt8}, x.dropWhile p = l → ∀ b, l[0]? = some b → p b = false
  | [], l, h, b, hb => by
    have : l = [] := by rw [← h]; rfl
    subst this; cases hb
  | a :: t, l, h, b, hb => by
    rw [List.dropWhile_cons] at h
    cases hp : p a with
    | true => rw [hp, if_pos rfl] at h; exact dw_head h b hb
    | false =>
      rw [hp, if_neg (by decide)] at h
      subst h
      cases hb
      exact hp
theorem dw_len (p : UInt8 → Bool) : ∀ x : List UInt8, (x.dropWhile p).length ≤ x.length
  | [] => Nat.le_refl _
  | a :: t => by
    rw [List.dropWhile_cons]
    split
    · exact Nat.le_trans (dw_len p t) (Nat.le_succ _)
    · exact Nat.le_refl _
theorem dw_same (p : UInt8 → Bool) : ∀ x : List UInt8, x.length ≤ (x.dropWhile p).length → x.dropWhile p = x
  | [], _ => rfl
  | a :: t, h => by
    rw [List.dropWhile_cons] at h ⊢
    split at h
    · have := dw_len p t
      simp only [List.length_cons] at h
      omega
    · next hp => rw [if_neg hp]
/-- A text is its own trimming just if it neither begins nor ends with a blank. -/
theorem trim_iff (l : List UInt8) : trim l = l ↔ (∀ b, l[0]? = some b → blank b = false) ∧ (∀ b, l[l.length - 1]? = some b → blank b = false) := by
  constructor
  · intro h
    have h1 : (Lib.trimRightS l [32, 9]).dropWhile (([32, 9] : List UInt8).contains ·) = l := h
    refine ⟨fun b hb => by rw [← blank_is]; exact dw_head h1 b hb, fun b hb => ?_⟩
    have h2 := dw_len (([32, 9] : List UInt8).contains ·) (Lib.trimRightS l [32, 9])
    rw [h1] at h2
    unfold Lib.trimRightS at h2
    rw [List.length_reverse] at h2
    have h3 := dw_same (([32, 9] : List UInt8).contains ·) l.reverse (by rw [List.length_reverse]; exact h2)
    rw [← blank_is]
    refine dw_head h3 b ?_
    have hl : 0 < l.length := by
      rcases Nat.eq_zero_or_pos l.length with e | e
      · rw [List.getElem?_eq_none (by omega)] at hb; cases hb
      · exact e
    rw [List.getElem?_reverse hl]
    simpa using hb
  · rintro ⟨h0, h1⟩
    have e : Lib.trimRightS l [32, 9] = l := by
      rw [Lib.trimRightS_take l [32, 9] l.length (Nat.le_refl _) (fun j b hj hb => by rw [List.getElem?_eq_none hj] at hb; cases hb) (fun b _ hb => by rw [blank_is]; exact h1 b hb), List.take_length]
    show Lib.trimLeftS (Lib.trimRightS l [32, 9]) [32, 9] = l
    rw [e, Lib.trimLeftS_drop l [32, 9] 0 (Nat.zero_le _) (fun j b hj _ => by cases hj) (fun b hb => by rw [blank_is]; exact h0 b hb)]
    rfl
theorem extT (r : List UInt8) (m : Nat) : (⟨r.toArray⟩ : ByteArray).extract 0 m = ⟨(r.take m).toArray⟩ := by
  apply ByteArray.ext
  simp [ByteArray.data_extract]
theorem extD (r : List UInt8) (m : Nat) : (⟨r.toArray⟩ : ByteArray).extract m r.length = ⟨(r.drop m).toArray⟩ := by
  apply ByteArray.ext
  simp [ByteArray.data_extract, List.take_of_length_le]
def strN : Value → Nat | .string b => b.size | _ => 0
section
variable {l r : List UInt8}
theorem trim_step1 (H : trim l = l ↔ (∀ b, l[0]? = some b → blank b = false) ∧ (∀ b, l[l.length - 1]? = some b → blank b = false)) (h0 : 0 < r.length) (h : r = l ∨ (r.length < l.length ∧ ¬ trim l = l)) : blank r[0] = true → (r.drop 1).length < l.length ∧ ¬ trim l = l := by
  intro hb
  rw [List.length_drop]
  rcases h with rfl | ⟨h1, h2⟩
  · refine ⟨by omega, fun e => ?_⟩
    have := (H.1 e).1 r[0] (List.getElem?_eq_getElem h0)
    rw [hb] at this; cases this
  · exact ⟨by omega, h2⟩
theorem trim_out1 (h0 : 0 < r.length) (h : r = l ∨ (r.length < l.length ∧ ¬ trim l = l)) : blank r[0] = false → (r = l ∧ ∀ b, l[0]? = some b → blank b = false) ∨ (r.length < l.length ∧ ¬ trim l = l) := by
  intro hb
  rcases h with rfl | h
  · refine .inl ⟨rfl, fun b e => ?_⟩
    rw [List.getElem?_eq_getElem h0] at e
    cases e
    exact hb
  · exact .inr h
theorem trim_out0 (h0 : r = []) (h : r = l ∨ (r.length < l.length ∧ ¬ trim l = l)) : (r = l ∧ ∀ b, l[0]? = some b → blank b = false) ∨ (r.length < l.length ∧ ¬ trim l = l) := by
  rcases h with rfl | h
  · subst h0
    exact .inl ⟨rfl, fun b e => by cases e⟩
  · exact .inr h
theorem trim_end0 (H : trim l = l ↔ (∀ b, l[0]? = some b → blank b = false) ∧ (∀ b, l[l.length - 1]? = some b → blank b = false)) (h0 : r = []) (h : (r = l ∧ ∀ b, l[0]? = some b → blank b = false) ∨ (r.length < l.length ∧ ¬ trim l = l)) : r = l ↔ trim l = l := by
  rcases h with ⟨rfl, _⟩ | ⟨h1, h2⟩
  · subst h0
    exact ⟨fun _ => rfl, fun _ => rfl⟩
  · exact ⟨fun e => by rw [e] at h1; omega, fun e => absurd e h2⟩
theorem trim_step2 (H : trim l = l ↔ (∀ b, l[0]? = some b → blank b = false) ∧ (∀ b, l[l.length - 1]? = some b → blank b = false)) (h0 : r.length - 1 < r.length) (h : (r = l ∧ ∀ b, l[0]? = some b → blank b = false) ∨ (r.length < l.length ∧ ¬ trim l = l)) : blank r[r.length - 1] = true → ((r.take (r.length - 1)) = l ∧ ∀ b, l[0]? = some b → blank b = false) ∨ ((r.take (r.length - 1)).length < l.length ∧ ¬ trim l = l) := by
  intro hb
  rw [List.length_take]
  rcases h with ⟨rfl, _⟩ | ⟨h1, h2⟩
  · refine .inr ⟨by omega, fun e => ?_⟩
    have := (H.1 e).2 r[r.length - 1] (List.getElem?_eq_getElem h0)
    rw [hb] at this; cases this
  · exact .inr ⟨by omega, h2⟩
theorem trim_end (H : trim l = l ↔ (∀ b, l[0]? = some b → blank b = false) ∧ (∀ b, l[l.length - 1]? = some b → blank b = false)) (h0 : r.length - 1 < r.length) (h : (r = l ∧ ∀ b, l[0]? = some b → blank b = false) ∨ (r.length < l.length ∧ ¬ trim l = l)) : blank r[r.length - 1] = false → (r = l ↔ trim l = l) := by
  intro hb
  rcases h with ⟨rfl, h1⟩ | ⟨h1, h2⟩
  · refine ⟨fun _ => H.2 ⟨h1, fun b e => ?_⟩, fun _ => rfl⟩
    rw [List.getElem?_eq_getElem h0] at e
    cases e
    exact hb
  · exact ⟨fun e => by rw [e] at h1; omega, fun e => absurd e h2⟩
end
open Go.RowKit Go.Proofs in
theorem wrap_u8 (d : UInt8) : wrap64 ((d.toNat : Nat) : Int) = ((d.toNat : Nat) : Int) := by
  have := d.toNat_lt
  unfold wrap64
  omega
theorem mark_no {c : UInt8} {i : Nat} (hi : i < marks.length) (h : (marks.take i).contains c = false) (hp : ¬ marks[i] = c) : (marks.take (i + 1)).contains c = false := by
  rw [Bool.eq_false_iff]
  intro h2
  rw [List.contains_iff_mem, List.take_add_one, List.getElem?_eq_getElem hi, List.mem_append] at h2
  rcases h2 with h2 | h2
  · rw [List.contains_iff_mem.2 h2] at h; cases h
  · simp at h2; exact hp h2.symm
theorem mark_yes {c : UInt8} {i : Nat} (hi : i < marks.length) (hp : marks[i] = c) : marks.contains c = true := by
  rw [List.contains_iff_mem, ← hp]
  exact List.getElem_mem hi
end Go.Wb
namespace Go.Proofs
open Go.RowKit Go.Wi Go.Wb
set_option maxHeartbeats 1000000 in
set_option maxRecDepth 20000 in
theorem Tryz.rTok_any (c : UInt8) (w : World) : Calls Tryz.prog 51 #[.int .i64 c.toNat] w fun e w' => e = .returned (.bool (tok c)) ∧ w' = w := by
  have hd : tok c = (dig c || great c || (decide (97 ≤ c.toNat) && decide (c.toNat ≤ 122)) || marks.contains c) := rfl
  by_cases h : dig c = true ∨ great c = true ∨ (97 ≤ c.toNat ∧ c.toNat ≤ 122)
  · have hT : tok c = true := by
      rw [hd]
      rcases h with h | h | h
      · rw [h]; rfl
      · rw [h]; simp
      · rw [decide_eq_true h.1, decide_eq_true h.2]; simp
    rw [hT]
    have hs : (48 ≤ c.toNat ∧ c.toNat ≤ 57) ∨ (65 ≤ c.toNat ∧ c.toNat ≤ 90) ∨ (97 ≤ c.toNat ∧ c.toNat ≤ 122) := by simpa [dig, great] using h
    clear hd hT h
    generalize c.toNat = n at *
    rcases hs with ⟨a1, a2⟩ | ⟨a1, a2⟩ | ⟨a1, a2⟩
    · have q1 : (48 : Int) ≤ (n : Int) := by omega
      have q2 : (n : Int) ≤ 57 := by omega
      go_enter Tryz.func51, Tryz.ntmps51
      go_wp2
      go_ret
      exact ⟨rfl, rfl⟩
    · have q1 : (48 : Int) ≤ (n : Int) := by omega
      have q2 : ¬ (n : Int) ≤ 57 := by omega
      have q3 : (65 : Int) ≤ (n : Int) := by omega
      have q4 : (n : Int) ≤ 90 := by omega
      go_enter Tryz.func51, Tryz.ntmps51
      go_wp2
      go_ret
      exact ⟨rfl, rfl⟩
    · have q1 : (48 : Int) ≤ (n : Int) := by omega
      have q2 : ¬ (n : Int) ≤ 57 := by omega
      have q3 : (65 : Int) ≤ (n : Int) := by omega
      have q4 : ¬ (n : Int) ≤ 90 := by omega
      have q5 : (97 : Int) ≤ (n : Int) := by omega
      have q6 : (n : Int) ≤ 122 := by omega
      go_enter Tryz.func51, Tryz.ntmps51
      go_wp2
      go_ret
      exact ⟨rfl, rfl⟩
  · have hD : dig c = false := by rw [Bool.eq_false_iff]; exact fun e => h (.inl e)
    have hG : great c = false := by rw [Bool.eq_false_iff]; exact fun e => h (.inr (.inl e))
    have hS : (decide (97 ≤ c.toNat) && decide (c.toNat ≤ 122)) = false := by
      rw [Bool.eq_false_iff]
      intro e
      simp only [Bool.and_eq_true, decide_eq_true_eq] at e
      exact h (.inr (.inr e))
    have HT : Hid (tok c = marks.contains c) := (by show tok c = _; rw [hd, hD, hG, hS]; rfl)
    have hn : ¬ (48 ≤ c.toNat ∧ c.toNat ≤ 57) ∧ ¬ (65 ≤ c.toNat ∧ c.toNat ≤ 90) ∧ ¬ (97 ≤ c.toNat ∧ c.toNat ≤ 122) := by
      refine ⟨fun e => ?_, fun e => ?_, fun e => h (.inr (.inr e))⟩
      · exact h (.inl (by simp only [dig, decide_eq_true e.1, decide_eq_true e.2]; rfl))
      · exact h (.inr (.inl (by simp only [great, decide_eq_true e.1, decide_eq_true e.2]; rfl)))
    clear hd hD hG hS h
    have hlt : c.toNat < 256 := c.toNat_lt
    have hM : (⟨#[33, 35, 36, 37, 38, 39, 42, 43, 45, 46, 94, 95, 96, 124, 126]⟩ : ByteArray) = ⟨marks.toArray⟩ := rfl
    have hml : marks.length = 15 := rfl
    have HZ : Hid ((⟨#[33, 35, 36, 37, 38, 39, 42, 43, 45, 46, 94, 95, 96, 124, 126]⟩ : ByteArray) = ⟨marks.toArray⟩) := hM
    have HL : Hid (marks.length = 15) := hml
    have HI : Hid (∀ i (h : i < 15), marks[i]'(by rw [HL.out]; exact h) = c → tok c = true) := fun i h e => (by rw [HT.out]; exact mark_yes _ e)
    have HJ : Hid (∀ i (h : i < 15), (marks.take i).contains c = false → ¬ marks[i]'(by rw [HL.out]; exact h) = c → (marks.take (i + 1)).contains c = false) := fun i h e1 e2 => mark_no (by rw [HL.out]; exact h) e1 e2
    have HK : Hid ((marks.take 15).contains c = false → tok c = false) := fun e => (by rw [HT.out]; exact e)
    obtain ⟨hn1, hn2, hn3⟩ := hn
    clear hM hml
    by_cases q1 : (48 : Int) ≤ (c.toNat : Int) <;> by_cases q2 : (c.toNat : Int) ≤ 57 <;> by_cases q3 : (65 : Int) ≤ (c.toNat : Int) <;> by_cases q4 : (c.toNat : Int) ≤ 90 <;> by_cases q5 : (97 : Int) ≤ (c.toNat : Int) <;> by_cases q6 : (c.toNat : Int) ≤ 122 <;> first
      | (exfalso; omega)
      | (clear hn1 hn2 hn3
         go_enter Tryz.func51, Tryz.ntmps51
         go_wp2
         go_loopw [4] (fun iv wr => ∃ i : Nat, iv = .int .i64 i ∧ i ≤ 15 ∧ (marks.take i).contains c = false ∧ wr = w) (fun iv _ => 15 - (intOf iv).toNat)
         case atStart => exact ⟨0, rfl, Nat.zero_le _, rfl, rfl⟩
         case round =>
           obtain ⟨i, rfl, hi, ha, rfl⟩ := hrel
           have HA : Hid ((marks.take i).contains c = false) := ha
           clear ha
           by_cases hlt : i < 15
           · have q : (i : Int) < (15 : Int) := by omega
             have hil : i < marks.length := by rw [HL.out]; exact hlt
             obtain ⟨d, hde⟩ : ∃ d, marks[i]'hil = d := ⟨_, rfl⟩
             have hix : ∀ h : i < (⟨#[33, 35, 36, 37, 38, 39, 42, 43, 45, 46, 94, 95, 96, 124, 126]⟩ : ByteArray).size, (⟨#[33, 35, 36, 37, 38, 39, 42, 43, 45, 46, 94, 95, 96, 124, 126]⟩ : ByteArray)[i]'h = d := fun h => (at_text hil h).trans hde
             have HX1 : Hid (d = c → tok c = true) := fun e => HI.out i hlt (hde.trans e)
             have HX2 : Hid (¬ d = c → (marks.take (i + 1)).contains c = false) := fun e => HJ.out i hlt HA.out fun e2 => e (hde.symm.trans e2)
             clear HI HJ hde
             have hwd : wrap64 ((d.toNat : Nat) : Int) = ((d.toNat : Nat) : Int) := wrap_u8 d
             by_cases hd : d = c
             · have qd : (((d.toNat : Nat) : Int) == (c.toNat : Int)) = true := by rw [hd]; simp
               have HE := HX1.out hd
               have HEE : Hid (tok c = true) := HE
               clear HE hd HX1 HX2
               go_wp2
               go_ret
               exact ⟨by rw [HEE.out]; rfl, rfl⟩
             · have qd : (((d.toNat : Nat) : Int) == (c.toNat : Int)) = false := by
                 simp only [beq_eq_false_iff_ne, ne_eq]
                 exact fun e => hd (UInt8.toNat_inj.1 (by omega))
               have HE : Hid ((marks.take (i + 1)).contains c = false) := HX2.out hd
               clear hd HX1 HX2
               go_wp2
               go_roundw
               case rel => exact ⟨i + 1, by simp, by omega, HE.out, trivial⟩
               case measure => simp [intOf]; omega
           · have q : ¬ (i : Int) < (15 : Int) := by omega
             have HE : Hid (tok c = false) := HK.out (by rw [show (15 : Nat) = i by omega]; exact HA.out)
             go_wp2
             go_ret
             exact ⟨by rw [HE.out]; rfl, rfl⟩)
set_option maxHeartbeats 1000000 in
theorem Tryz.rVal_any (c : UInt8) (w : World) : Calls Tryz.prog 65 #[.int .i64 c.toNat] w fun e w' => e = .returned (.bool (txt c)) ∧ w' = w := by
  have hd : txt c = (c.toNat == 9 || (decide (32 ≤ c.toNat) && decide (c.toNat ≤ 126)) || decide (128 ≤ c.toNat)) := rfl
  rw [hd]
  generalize c.toNat = n at *
  clear hd
  by_cases h : n = 9
  · have q : ((n : Int) == 9) = true := by simp; omega
    go_enter Tryz.func65, Tryz.ntmps65
    go_wp2
    go_ret
    exact ⟨by rw [h]; rfl, rfl⟩
  · have q : ((n : Int) == 9) = false := by simp; omega
    have h1 : (n == 9) = false := by simpa using h
    rw [h1, Bool.false_or]
    by_cases h2 : 32 ≤ n
    · have q2 : (32 : Int) ≤ (n : Int) := by omega
      rw [decide_eq_true h2, Bool.true_and]
      by_cases h3 : n ≤ 126
      · have q3 : (n : Int) ≤ 126 := by omega
        rw [decide_eq_true h3, Bool.true_or]
        go_enter Tryz.func65, Tryz.ntmps65
        go_wp2
        go_ret
        exact ⟨rfl, rfl⟩
      · have q3 : ¬ (n : Int) ≤ 126 := by omega
        rw [decide_eq_false h3, Bool.false_or]
        go_enter Tryz.func65, Tryz.ntmps65
        go_wp2
        go_ret
        exact ⟨by simp; omega, rfl⟩
    · have q2 : ¬ (32 : Int) ≤ (n : Int) := by omega
      rw [decide_eq_false h2, Bool.false_and, Bool.false_or]
      go_enter Tryz.func65, Tryz.ntmps65
      go_wp2
      go_ret
      exact ⟨by simp; omega, rfl⟩
set_option maxRecDepth 20000 in
set_option maxHeartbeats 1000000 in
/-- The document's trimmed: it is the text itself just if the text is its own trimming. -/
theorem Tryz.rTrim_any (l : List UInt8) (hl : l.length ≤ 9223372036854775807) (w : World) :
    Calls Tryz.prog 66 #[.string ⟨l.toArray⟩] w fun e w' => (∃ r : List UInt8, e = .returned (.string ⟨r.toArray⟩) ∧ (r = l ↔ trim l = l)) ∧ w' = w := by
  have HT : Hid (trim l = l ↔ (∀ b, l[0]? = some b → Wb.blank b = false) ∧ (∀ b, l[l.length - 1]? = some b → Wb.blank b = false)) := trim_iff l
  go_enter Tryz.func66, Tryz.ntmps66
  go_wp2
  go_loopw [0] (fun sv wr => ∃ r : List UInt8, sv = .string ⟨r.toArray⟩ ∧ (r = l ∨ (r.length < l.length ∧ ¬ trim l = l)) ∧ r.length ≤ 9223372036854775807 ∧ wr = w) (fun sv _ => strN sv)
  case atStart => exact ⟨l, rfl, .inl rfl, hl, rfl⟩
  case round =>
    obtain ⟨r, rfl, hr, hrl, rfl⟩ := hrel
    have HR : Hid (r = l ∨ (r.length < l.length ∧ ¬ trim l = l)) := hr
    clear hr hl
    have hz : (⟨r.toArray⟩ : ByteArray).size = r.length := text_size r
    by_cases h0 : r.length = 0
    · have q0 : ¬ (r.length : Int) > 0 := by omega
      have HO : Hid ((r = l ∧ ∀ b, l[0]? = some b → Wb.blank b = false) ∨ (r.length < l.length ∧ ¬ trim l = l)) := trim_out0 (List.eq_nil_of_length_eq_zero h0) HR.out
      have hix : True := trivial
      clear HR h0
      go_wp2
      go_loopw [0] (fun sv wz => ∃ r : List UInt8, sv = .string ⟨r.toArray⟩ ∧ ((r = l ∧ ∀ b, l[0]? = some b → Wb.blank b = false) ∨ (r.length < l.length ∧ ¬ trim l = l)) ∧ r.length ≤ 9223372036854775807 ∧ wz = wr) (fun sv _ => strN sv)
      case atStart => exact ⟨r, rfl, HO.out, hrl, rfl⟩
      case round =>
        clear HO hix hz hrl
        obtain ⟨s, rfl, hs, hrl, rfl⟩ := hrel
        have HS : Hid ((s = l ∧ ∀ b, l[0]? = some b → Wb.blank b = false) ∨ (s.length < l.length ∧ ¬ trim l = l)) := hs
        clear hs
        have hz : (⟨s.toArray⟩ : ByteArray).size = s.length := text_size s
        by_cases h0 : s.length = 0
        · have q0 : ¬ (s.length : Int) > 0 := by omega
          have HF : Hid (s = l ↔ trim l = l) := trim_end0 HT.out (List.eq_nil_of_length_eq_zero h0) HS.out
          clear h0
          go_wp2
          go_ret
          exact ⟨⟨s, rfl, HF.out⟩, rfl⟩
        · have q0 : (s.length : Int) > 0 := by omega
          have hlt : s.length - 1 < s.length := by omega
          have hw : IntKind.i64.wrap ((s.length : Int) - 1) = ((s.length - 1 : Nat) : Int) := by rw [IntKind.wrap_i64]; omega
          obtain ⟨c, hde⟩ : ∃ c, s[s.length - 1]'hlt = c := ⟨_, rfl⟩
          have hix : ∀ h : s.length - 1 < (⟨s.toArray⟩ : ByteArray).size, (⟨s.toArray⟩ : ByteArray)[s.length - 1]'h = c := fun h => (at_text hlt h).trans hde
          have HB : Hid (Wb.blank c = true → ((s.take (s.length - 1)) = l ∧ ∀ b, l[0]? = some b → Wb.blank b = false) ∨ ((s.take (s.length - 1)).length < l.length ∧ ¬ trim l = l)) := fun e => trim_step2 HT.out hlt HS.out (by rw [hde]; exact e)
          have HN : Hid (Wb.blank c = false → (s = l ↔ trim l = l)) := fun e => trim_end HT.out hlt HS.out (by rw [hde]; exact e)
          clear hde
          by_cases h32 : c.toNat = 32
          · have q1 : (((c.toNat : Nat) : Int) == 32) = true := by rw [h32]; rfl
            have HR : Hid (((s.take (s.length - 1)) = l ∧ ∀ b, l[0]? = some b → Wb.blank b = false) ∨ ((s.take (s.length - 1)).length < l.length ∧ ¬ trim l = l)) := HB.out (by simp [Wb.blank, h32])
            clear HB HN h32
            go_wp2
            go_roundw
            case rel => exact ⟨s.take (s.length - 1), by rw [extT], HR.out, by rw [List.length_take]; omega, trivial⟩
            case measure => simp [strN]; omega
          · have q1 : (((c.toNat : Nat) : Int) == 32) = false := by simp; omega
            by_cases h9 : c.toNat = 9
            · have q2 : (((c.toNat : Nat) : Int) == 9) = true := by rw [h9]; rfl
              have HR : Hid (((s.take (s.length - 1)) = l ∧ ∀ b, l[0]? = some b → Wb.blank b = false) ∨ ((s.take (s.length - 1)).length < l.length ∧ ¬ trim l = l)) := HB.out (by simp [Wb.blank, h9])
              clear HB HN h32 h9
              go_wp2
              go_roundw
              case rel => exact ⟨s.take (s.length - 1), by rw [extT], HR.out, by rw [List.length_take]; omega, trivial⟩
              case measure => simp [strN]; omega
            · have q2 : (((c.toNat : Nat) : Int) == 9) = false := by simp; omega
              have HF : Hid (s = l ↔ trim l = l) := HN.out (by simp [Wb.blank, h32, h9])
              clear HB HN h32 h9
              go_wp2
              go_ret
              exact ⟨⟨s, rfl, HF.out⟩, rfl⟩
    · have q0 : (r.length : Int) > 0 := by omega
      have hlt : 0 < r.length := by omega
      obtain ⟨c, hde⟩ : ∃ c, r[0]'hlt = c := ⟨_, rfl⟩
      have hix : ∀ h : 0 < (⟨r.toArray⟩ : ByteArray).size, (⟨r.toArray⟩ : ByteArray)[0]'h = c := fun h => (at_text hlt h).trans hde
      have HB : Hid (Wb.blank c = true → (r.drop 1).length < l.length ∧ ¬ trim l = l) := fun e => trim_step1 HT.out hlt HR.out (by rw [hde]; exact e)
      have HN : Hid (Wb.blank c = false → (r = l ∧ ∀ b, l[0]? = some b → Wb.blank b = false) ∨ (r.length < l.length ∧ ¬ trim l = l)) := fun e => trim_out1 hlt HR.out (by rw [hde]; exact e)
      clear hde
      by_cases h32 : c.toNat = 32
      · have q1 : (((c.toNat : Nat) : Int) == 32) = true := by rw [h32]; rfl
        have HX : Hid ((r.drop 1).length < l.length ∧ ¬ trim l = l) := HB.out (by simp [Wb.blank, h32])
        clear HB HN h32 HR
        go_wp2
        go_roundw
        case rel => exact ⟨r.drop 1, by rw [← extD], .inr HX.out, by rw [List.length_drop]; omega, trivial⟩
        case measure => simp [strN]; omega
      · have q1 : (((c.toNat : Nat) : Int) == 32) = false := by simp; omega
        by_cases h9 : c.toNat = 9
        · have q2 : (((c.toNat : Nat) : Int) == 9) = true := by rw [h9]; rfl
          have HX : Hid ((r.drop 1).length < l.length ∧ ¬ trim l = l) := HB.out (by simp [Wb.blank, h9])
          clear HB HN h32 h9 HR
          go_wp2
          go_roundw
          case rel => exact ⟨r.drop 1, by rw [← extD], .inr HX.out, by rw [List.length_drop]; omega, trivial⟩
          case measure => simp [strN]; omega
        · have q2 : (((c.toNat : Nat) : Int) == 9) = false := by simp; omega
          have HO : Hid ((r = l ∧ ∀ b, l[0]? = some b → Wb.blank b = false) ∨ (r.length < l.length ∧ ¬ trim l = l)) := HN.out (by simp [Wb.blank, h32, h9])
          clear HB HN h32 h9 HR
          go_wp2
          go_loopw [0] (fun sv wz => ∃ r : List UInt8, sv = .string ⟨r.toArray⟩ ∧ ((r = l ∧ ∀ b, l[0]? = some b → Wb.blank b = false) ∨ (r.length < l.length ∧ ¬ trim l = l)) ∧ r.length ≤ 9223372036854775807 ∧ wz = wr) (fun sv _ => strN sv)
          case atStart => exact ⟨r, rfl, HO.out, hrl, rfl⟩
          case round =>
            clear HO hix hz hrl
            obtain ⟨s, rfl, hs, hrl, rfl⟩ := hrel
            have HS : Hid ((s = l ∧ ∀ b, l[0]? = some b → Wb.blank b = false) ∨ (s.length < l.length ∧ ¬ trim l = l)) := hs
            clear hs
            have hz : (⟨s.toArray⟩ : ByteArray).size = s.length := text_size s
            by_cases h0 : s.length = 0
            · have q0 : ¬ (s.length : Int) > 0 := by omega
              have HF : Hid (s = l ↔ trim l = l) := trim_end0 HT.out (List.eq_nil_of_length_eq_zero h0) HS.out
              clear h0
              go_wp2
              go_ret
              exact ⟨⟨s, rfl, HF.out⟩, rfl⟩
            · have q0 : (s.length : Int) > 0 := by omega
              have hlt : s.length - 1 < s.length := by omega
              have hw : IntKind.i64.wrap ((s.length : Int) - 1) = ((s.length - 1 : Nat) : Int) := by rw [IntKind.wrap_i64]; omega
              obtain ⟨c, hde⟩ : ∃ c, s[s.length - 1]'hlt = c := ⟨_, rfl⟩
              have hix : ∀ h : s.length - 1 < (⟨s.toArray⟩ : ByteArray).size, (⟨s.toArray⟩ : ByteArray)[s.length - 1]'h = c := fun h => (at_text hlt h).trans hde
              have HB : Hid (Wb.blank c = true → ((s.take (s.length - 1)) = l ∧ ∀ b, l[0]? = some b → Wb.blank b = false) ∨ ((s.take (s.length - 1)).length < l.length ∧ ¬ trim l = l)) := fun e => trim_step2 HT.out hlt HS.out (by rw [hde]; exact e)
              have HN : Hid (Wb.blank c = false → (s = l ↔ trim l = l)) := fun e => trim_end HT.out hlt HS.out (by rw [hde]; exact e)
              clear hde
              by_cases h32 : c.toNat = 32
              · have q1 : (((c.toNat : Nat) : Int) == 32) = true := by rw [h32]; rfl
                have HR : Hid (((s.take (s.length - 1)) = l ∧ ∀ b, l[0]? = some b → Wb.blank b = false) ∨ ((s.take (s.length - 1)).length < l.length ∧ ¬ trim l = l)) := HB.out (by simp [Wb.blank, h32])
                clear HB HN h32
                go_wp2
                go_roundw
                case rel => exact ⟨s.take (s.length - 1), by rw [extT], HR.out, by rw [List.length_take]; omega, trivial⟩
                case measure => simp [strN]; omega
              · have q1 : (((c.toNat : Nat) : Int) == 32) = false := by simp; omega
                by_cases h9 : c.toNat = 9
                · have q2 : (((c.toNat : Nat) : Int) == 9) = true := by rw [h9]; rfl
                  have HR : Hid (((s.take (s.length - 1)) = l ∧ ∀ b, l[0]? = some b → Wb.blank b = false) ∨ ((s.take (s.length - 1)).length < l.length ∧ ¬ trim l = l)) := HB.out (by simp [Wb.blank, h9])
                  clear HB HN h32 h9
                  go_wp2
                  go_roundw
                  case rel => exact ⟨s.take (s.length - 1), by rw [extT], HR.out, by rw [List.length_take]; omega, trivial⟩
                  case measure => simp [strN]; omega
                · have q2 : (((c.toNat : Nat) : Int) == 9) = false := by simp; omega
                  have HF : Hid (s = l ↔ trim l = l) := HN.out (by simp [Wb.blank, h32, h9])
                  clear HB HN h32 h9
                  go_wp2
                  go_ret
                  exact ⟨⟨s, rfl, HF.out⟩, rfl⟩
end Go.Proofs
namespace Go.Wb
def okSign (small : Bool) (c : UInt8) : Bool := tok c && !(small && great c)
def okTok (small : Bool) (l : List UInt8) : Bool := !l.isEmpty && l.all (okSign small)
theorem okTok_false (l : List UInt8) : okTok false l = isTok l := by
  unfold okTok isTok
  congr 2
  funext c
  simp [okSign]
theorem sm_self (c : UInt8) : sm c = c ↔ great c = false := by
  constructor
  · intro h
    rw [Bool.eq_false_iff]
    intro g
    have := sm_nat c
    rw [h, if_pos g] at this
    omega
  · intro h
    unfold sm
    rw [h]; rfl
theorem map_sm (l : List UInt8) : (l.map sm == l) = l.all fun c => !great c := by
  induction l with
  | nil => rfl
  | cons a l ih =>
    rw [List.map_cons, List.all_cons, ← ih]
    cases hg : great a with
    | true =>
      have hn : ¬ sm a = a := fun e => by rw [(sm_self a).1 e] at hg; cases hg
      have : (sm a == a) = false := by simpa using hn
      simp [this]
    | false =>
      rw [(sm_self a).2 hg]
      simp
theorem okTok_true (l : List UInt8) : okTok true l = (isTok l && (l.map sm == l)) := by
  rw [map_sm]
  unfold okTok isTok
  rw [Bool.and_assoc]
  congr 1
  induction l with
  | nil => rfl
  | cons a l ih =>
    rw [List.all_cons, List.all_cons, List.all_cons, ih]
    simp only [okSign, Bool.true_and]
    cases tok a <;> cases great a <;> simp
theorem pre_slash {l : List UInt8} {c : UInt8} (h : 0 < l.length) (hc : l[0] = c) : Lib.hasPrefix l [47] = (c == 47) := by
  cases l with
  | nil => cases h
  | cons a t =>
    obtain rfl : a = c := hc
    show ((47 : UInt8) == a && List.isPrefixOf [] t) = _
    rw [show List.isPrefixOf [] t = true by cases t <;> rfl, Bool.and_true, BEq.comm]
theorem all_take2 {p : UInt8 → Bool} {l : List UInt8} {i : Nat} (hi : i < l.length) (h : (l.take i).all p = true) (hp : p l[i] = true) : (l.take (i + 1)).all p = true := all_take hi h hp
end Go.Wb
namespace Go.Proofs
open Go.RowKit Go.Wi Go.Wb
set_option maxRecDepth 20000 in
set_option maxHeartbeats 1000000 in
theorem Tryz.rIsToken_any (l : List UInt8) (hl : l.length ≤ 9223372036854775807) (small : Bool) (w : World) :
    Calls Tryz.prog 26 #[.string ⟨l.toArray⟩, .bool small] w fun e w' => e = .returned (.bool (okTok small l)) ∧ w' = w := by
  have hsz := text_size l
  go_enter Tryz.func26, Tryz.ntmps26
  go_wp2
  go_loopw [5, 6] (fun iv _ wr => ∃ i : Nat, iv = .int .i64 i ∧ i ≤ l.length ∧ (l.take i).all (okSign small) = true ∧ wr = w) (fun iv _ _ => l.length - (intOf iv).toNat)
  case atStart => exact ⟨0, rfl, Nat.zero_le _, by simp, rfl⟩
  case round =>
    obtain ⟨i, rfl, hi, ha, rfl⟩ := hrel
    have HT : Hid ((l.take i).all (okSign small) = true) := ha
    clear ha
    by_cases hlt : i < l.length
    · have q : (i : Int) < (l.length : Int) := by omega
      obtain ⟨c, hde⟩ : ∃ c, l[i]'hlt = c := ⟨_, rfl⟩
      have hix : ∀ h : i < (⟨l.toArray⟩ : ByteArray).size, (⟨l.toArray⟩ : ByteArray)[i]'h = c := fun h => (at_text hlt h).trans hde
      have HY : Hid (okSign small c = true → (l.take (i + 1)).all (okSign small) = true) := fun e => all_take hlt HT.out (by rw [hde]; exact e)
      have HN : Hid (okSign small c = false → okTok small l = false) := fun e => (by unfold okTok; rw [all_not hlt (by rw [hde]; exact e), Bool.and_false])
      have kd := Tryz.rTok_any c wr
      have hwc := wrap_u8 c
      clear hde
      cases ht : tok c with
      | false =>
        rw [ht] at kd
        have HE : Hid (okTok small l = false) := HN.out (by simp [okSign, ht])
        clear ht HY HN
        go_wp2_with (first | (go_at_call 51; refine kd.mono ?_; clear kd; rintro e w1 ⟨rfl, rfl⟩) | fail)
        go_ret
        exact ⟨by rw [HE.out]; rfl, rfl⟩
      | true =>
        rw [ht] at kd
        cases small with
        | false =>
          have HE : Hid ((l.take (i + 1)).all (okSign false) = true) := HY.out (by simp [okSign, ht])
          clear ht HY HN
          go_wp2_with (first | (go_at_call 51; refine kd.mono ?_; clear kd; rintro e w1 ⟨rfl, rfl⟩) | fail)
          go_roundw
          case rel => exact ⟨i + 1, by simp, by omega, HE.out, trivial⟩
          case measure => simp [intOf]; omega
        | true =>
          by_cases h1 : 65 ≤ c.toNat
          · have q1 : (65 : Int) ≤ (c.toNat : Int) := by omega
            by_cases h2 : c.toNat ≤ 90
            · have q2 : (c.toNat : Int) ≤ 90 := by omega
              have HE : Hid (okTok true l = false) := HN.out (by simp [okSign, ht, great, h1, h2])
              clear ht HY HN h1 h2
              go_wp2_with (first | (go_at_call 51; refine kd.mono ?_; clear kd; rintro e w1 ⟨rfl, rfl⟩) | fail)
              go_ret
              exact ⟨by rw [HE.out]; rfl, rfl⟩
            · have q2 : ¬ (c.toNat : Int) ≤ 90 := by omega
              have HE : Hid ((l.take (i + 1)).all (okSign true) = true) := HY.out (by simp [okSign, ht, great]; omega)
              clear ht HY HN h1 h2
              go_wp2_with (first | (go_at_call 51; refine kd.mono ?_; clear kd; rintro e w1 ⟨rfl, rfl⟩) | fail)
              go_roundw
              case rel => exact ⟨i + 1, by simp, by omega, HE.out, trivial⟩
              case measure => simp [intOf]; omega
          · have q1 : ¬ (65 : Int) ≤ (c.toNat : Int) := by omega
            have HE : Hid ((l.take (i + 1)).all (okSign true) = true) := HY.out (by simp [okSign, ht, great]; omega)
            clear ht HY HN h1
            go_wp2_with (first | (go_at_call 51; refine kd.mono ?_; clear kd; rintro e w1 ⟨rfl, rfl⟩) | fail)
            go_roundw
            case rel => exact ⟨i + 1, by simp, by omega, HE.out, trivial⟩
            case measure => simp [intOf]; omega
    · have q : ¬ (i : Int) < (l.length : Int) := by omega
      have HE : Hid (okTok small l = !l.isEmpty) := (by
        have e := HT.out
        rw [List.take_of_length_le (by omega)] at e
        show okTok small l = _
        unfold okTok
        rw [e, Bool.and_true])
      cases hq : l.isEmpty with
      | true =>
        rw [hq] at HE
        go_wp2
        go_ret
        exact ⟨by rw [HE.out]; rfl, rfl⟩
      | false =>
        rw [hq] at HE
        go_wp2
        go_ret
        exact ⟨by rw [HE.out]; rfl, rfl⟩
set_option maxRecDepth 20000 in
set_option maxHeartbeats 1000000 in
theorem Tryz.rIsValue_any (l : List UInt8) (hl : l.length ≤ 9223372036854775807) (w : World) :
    Calls Tryz.prog 50 #[.string ⟨l.toArray⟩] w fun e w' => e = .returned (.bool (isVal l)) ∧ w' = w := by
  have hsz := text_size l
  have HV : Hid (isVal l = (l.all txt && (trim l == l))) := rfl
  go_enter Tryz.func50, Tryz.ntmps50
  go_wp2
  go_loopw [3, 4] (fun iv _ wr => ∃ i : Nat, iv = .int .i64 i ∧ i ≤ l.length ∧ (l.take i).all txt = true ∧ wr = w) (fun iv _ _ => l.length - (intOf iv).toNat)
  case atStart => exact ⟨0, rfl, Nat.zero_le _, by simp, rfl⟩
  case round =>
    obtain ⟨i, rfl, hi, ha, rfl⟩ := hrel
    have HT : Hid ((l.take i).all txt = true) := ha
    clear ha
    by_cases hlt : i < l.length
    · have q : (i : Int) < (l.length : Int) := by omega
      obtain ⟨c, hde⟩ : ∃ c, l[i]'hlt = c := ⟨_, rfl⟩
      have hix : ∀ h : i < (⟨l.toArray⟩ : ByteArray).size, (⟨l.toArray⟩ : ByteArray)[i]'h = c := fun h => (at_text hlt h).trans hde
      have HY : Hid (txt c = true → (l.take (i + 1)).all txt = true) := fun e => all_take hlt HT.out (by rw [hde]; exact e)
      have HN : Hid (txt c = false → isVal l = false) := fun e => (by rw [HV.out, all_not hlt (by rw [hde]; exact e), Bool.false_and])
      have kd := Tryz.rVal_any c wr
      have hwc := wrap_u8 c
      clear hde
      cases ht : txt c with
      | false =>
        rw [ht] at kd
        have HE : Hid (isVal l = false) := HN.out ht
        clear ht HY HN
        go_wp2_with (first | (go_at_call 65; refine kd.mono ?_; clear kd; rintro e w1 ⟨rfl, rfl⟩) | fail)
        go_ret
        exact ⟨by rw [HE.out]; rfl, rfl⟩
      | true =>
        rw [ht] at kd
        have HE : Hid ((l.take (i + 1)).all txt = true) := HY.out ht
        clear ht HY HN
        go_wp2_with (first | (go_at_call 65; refine kd.mono ?_; clear kd; rintro e w1 ⟨rfl, rfl⟩) | fail)
        go_roundw
        case rel => exact ⟨i + 1, by simp, by omega, HE.out, trivial⟩
        case measure => simp [intOf]; omega
    · have q : ¬ (i : Int) < (l.length : Int) := by omega
      have HE : Hid (isVal l = (trim l == l)) := (by
        have e := HT.out
        rw [List.take_of_length_le (by omega)] at e
        show isVal l = _
        rw [HV.out, e, Bool.true_and])
      have kt := Tryz.rTrim_any l hl wr
      clear HV HT
      go_wp2_with (first | (go_at_call 66; refine kt.mono ?_; clear kt; rintro e w1 ⟨⟨r, rfl, hr⟩, rfl⟩; have HR : Hid (r = l ↔ trim l = l) := hr; clear hr) | fail)
      go_ret
      refine ⟨?_, rfl⟩
      rw [HE.out]
      have hb : (r == l) = (trim l == l) := Bool.eq_iff_iff.2 (by simpa using HR.out)
      rw [← hb]
      rfl
set_option maxRecDepth 20000 in
set_option maxHeartbeats 1000000 in
theorem Tryz.rIsTarget_any (l : List UInt8) (hl : l.length ≤ 9223372036854775807) (w : World) :
    Calls Tryz.prog 27 #[.string ⟨l.toArray⟩] w fun e w' => e = .returned (.bool (isTgt l)) ∧ w' = w := by
  have hsz := text_size l
  have HV : Hid (isTgt l = (Lib.hasPrefix l [47] && decide (l.length ≤ 512) && l.all tgt)) := rfl
  go_enter Tryz.func27, Tryz.ntmps27
  go_wp2
  go_loopw [3] (fun iv wr => ∃ i : Nat, iv = .int .i64 i ∧ i ≤ l.length ∧ (l.take i).all tgt = true ∧ wr = w) (fun iv _ => l.length - (intOf iv).toNat)
  case atStart => exact ⟨0, rfl, Nat.zero_le _, by simp, rfl⟩
  case round =>
    obtain ⟨i, rfl, hi, ha, rfl⟩ := hrel
    have HT : Hid ((l.take i).all tgt = true) := ha
    clear ha
    by_cases hlt : i < l.length
    · have q : (i : Int) < (l.length : Int) := by omega
      obtain ⟨c, hde⟩ : ∃ c, l[i]'hlt = c := ⟨_, rfl⟩
      have hix : ∀ h : i < (⟨l.toArray⟩ : ByteArray).size, (⟨l.toArray⟩ : ByteArray)[i]'h = c := fun h => (at_text hlt h).trans hde
      have HY : Hid (tgt c = true → (l.take (i + 1)).all tgt = true) := fun e => all_take hlt HT.out (by rw [hde]; exact e)
      have HN : Hid (tgt c = false → isTgt l = false) := fun e => (by rw [HV.out, all_not hlt (by rw [hde]; exact e), Bool.and_false])
      clear hde
      by_cases h1 : c.toNat < 33
      · have q1 : (c.toNat : Int) < 33 := by omega
        have HE : Hid (isTgt l = false) := HN.out (by simp [tgt]; omega)
        clear HY HN h1
        go_wp2
        go_ret
        exact ⟨by rw [HE.out]; rfl, rfl⟩
      · have q1 : ¬ (c.toNat : Int) < 33 := by omega
        by_cases h2 : 126 < c.toNat
        · have q2 : (126 : Int) < (c.toNat : Int) := by omega
          have HE : Hid (isTgt l = false) := HN.out (by simp [tgt]; omega)
          clear HY HN h1 h2
          go_wp2
          go_ret
          exact ⟨by rw [HE.out]; rfl, rfl⟩
        · have q2 : ¬ (126 : Int) < (c.toNat : Int) := by omega
          have HE : Hid ((l.take (i + 1)).all tgt = true) := HY.out (by simp [tgt]; omega)
          clear HY HN h1 h2
          go_wp2
          go_roundw
          case rel => exact ⟨i + 1, by simp, by omega, HE.out, trivial⟩
          case measure => simp [intOf]; omega
    · have q : ¬ (i : Int) < (l.length : Int) := by omega
      have HE : Hid (isTgt l = (Lib.hasPrefix l [47] && decide (l.length ≤ 512))) := (by
        have e := HT.out
        rw [List.take_of_length_le (by omega)] at e
        show isTgt l = _
        rw [HV.out, e, Bool.and_true])
      clear HV HT
      by_cases h0 : l = []
      · subst h0
        go_wp2
        go_ret
        exact ⟨by rw [HE.out]; rfl, rfl⟩
      · have q0 : l.isEmpty = false := by simpa using h0
        have hl0 : 0 < l.length := List.length_pos_iff.2 h0
        obtain ⟨c, hde⟩ : ∃ c, l[0]'hl0 = c := ⟨_, rfl⟩
        have hix : ∀ h : 0 < (⟨l.toArray⟩ : ByteArray).size, (⟨l.toArray⟩ : ByteArray)[0]'h = c := fun h => (at_text hl0 h).trans hde
        have HP : Hid (Lib.hasPrefix l [47] = (c == 47)) := pre_slash hl0 hde
        clear h0 hde
        by_cases h47 : c = 47
        · have q1 : (((c.toNat : Nat) : Int) == 47) = true := by rw [h47]; rfl
          by_cases h5 : l.length ≤ 512
          · have q2 : (l.length : Int) ≤ 512 := by omega
            have HF : Hid (isTgt l = true) := (by show isTgt l = true; rw [HE.out, HP.out, h47, decide_eq_true h5]; rfl)
            clear HE HP h47 h5
            go_wp2
            go_ret
            exact ⟨by rw [HF.out]; rfl, rfl⟩
          · have q2 : ¬ (l.length : Int) ≤ 512 := by omega
            have HF : Hid (isTgt l = false) := (by show isTgt l = false; rw [HE.out, decide_eq_false h5, Bool.and_false])
            clear HE HP h47 h5
            go_wp2
            go_ret
            exact ⟨by rw [HF.out]; rfl, rfl⟩
        · have q1 : (((c.toNat : Nat) : Int) == 47) = false := by
            simp only [beq_eq_false_iff_ne, ne_eq]
            exact fun e => h47 (UInt8.toNat_inj.1 (by show c.toNat = 47; omega))
          have HF : Hid (isTgt l = false) := (by
            have : (c == 47) = false := by simpa using h47
            show isTgt l = false
            rw [HE.out, HP.out, this, Bool.false_and])
          clear HE HP h47
          go_wp2
          go_ret
          exact ⟨by rw [HF.out]; rfl, rfl⟩
end Go.Proofs
namespace Go.Wb
open Go.RowKit Go.Proofs
theorem dec_step {n : Nat} (h : 9 < n) : Lib.decDigits n = Lib.decDigits (n / 10) ++ [UInt8.ofNat (48 + n % 10)] := by
  rw [Lib.decDigits, dif_neg (by omega)]
theorem dec_one {n : Nat} (h : ¬ 9 < n) : Lib.decDigits n = [UInt8.ofNat (48 + n)] := by
  rw [Lib.decDigits, dif_pos (by omega)]
theorem cat2 (a b : List UInt8) : (⟨a.toArray⟩ : ByteArray) ++ ⟨b.toArray⟩ = ⟨(a ++ b).toArray⟩ := by
  apply ByteArray.ext
  simp [ByteArray.data_append]
end Go.Wb
namespace Go.Proofs
open Go.RowKit Go.Wi Go.Wb
theorem Tryz.conv1 (W : World) (d : UInt8) :
    (convert 26 9 (.slice (some ⟨W.heap.size, 0, none⟩) 1 1)).run Tryz.prog (W.alloc (.cells #[.int .u8 (d.toNat : Nat)] 5)) = .ok (.string ⟨[d].toArray⟩) (W.alloc (.cells #[.int .u8 (d.toNat : Nat)] 5)) := by
  refine run_convert_bytes_back (P := Tryz.prog) (W.alloc (.cells #[.int .u8 (d.toNat : Nat)] 5)) 26 9 5 ⟨W.heap.size, 0, none⟩ 1 [d] Tryz.underlying26 Tryz.underlying5 Tryz.underlying9 (fun j hj => ?_)
  obtain rfl : j = 0 := by simp at hj; omega
  have hadd : (⟨W.heap.size, 0, none⟩ : Addr).add 0 = ⟨W.heap.size, 0, none⟩ := by unfold Addr.add; split <;> simp_all
  rw [hadd, cell_of_row _ _ 0 _ _ _ (heap_alloc_new W _)]
  rfl
set_option maxRecDepth 20000 in
set_option maxHeartbeats 1000000 in
theorem Tryz.rDigits_any (n : Nat) (hn : n ≤ 9223372036854775807) (w : World) :
    Calls Tryz.prog 28 #[.int .i64 n] w fun e w' => e = .returned (.string ⟨(Lib.itoa n).toArray⟩) ∧ Below w.heap.size w w' := by
  have HL : Hid ((Lib.decDigits n).length ≤ 21) := (by
    have := Lib.itoa_length_le (n : Int) (by omega) (by omega)
    rw [Lib.itoa_nonneg] at this
    exact this)
  rw [Lib.itoa_nonneg]
  go_enter Tryz.func28, Tryz.ntmps28
  go_wp2
  go_loopw [0, 3] (fun nv sv wr => ∃ (m : Nat) (s : List UInt8), nv = .int .i64 m ∧ sv = .string ⟨s.toArray⟩ ∧ m ≤ n ∧ Lib.decDigits n = Lib.decDigits m ++ s ∧ Below w.heap.size w wr) (fun nv _ _ => (intOf nv).toNat)
  case atStart => exact ⟨n, [], rfl, rfl, Nat.le_refl _, by simp, Below.refl _ _⟩
  case round =>
    obtain ⟨m, s, rfl, rfl, hm, hd, hb⟩ := hrel
    have HD : Hid (Lib.decDigits n = Lib.decDigits m ++ s) := hd
    have HB : Hid (Below w.heap.size w wr) := hb
    have hsl : s.length ≤ 21 := by have := HL.out; rw [hd, List.length_append] at this; omega
    have hsz := text_size s
    clear hd hb
    by_cases h9 : 9 < m
    · have q : (9 : Int) < (m : Int) := by omega
      obtain ⟨d, hdd⟩ : ∃ d, UInt8.ofNat (48 + m % 10) = d := ⟨_, rfl⟩
      have hdn : d.toNat = 48 + m % 10 := by rw [← hdd, UInt8.toNat_ofNat']; omega
      have hc := Tryz.conv1 wr d
      have HX : Hid (Lib.decDigits n = Lib.decDigits (m / 10) ++ (d :: s)) := (by show _ = _; rw [HD.out, dec_step h9, hdd, List.append_assoc]; rfl)
      have HA : Hid (Below w.heap.size w (wr.alloc (.cells #[.int .u8 (d.toNat : Nat)] 5))) := HB.out.alloc HB.out.size _
      have hdz : ((d.toNat : Nat) : Int) = 48 + (m : Int) % 10 := by rw [hdn]; omega
      rw [hdz] at hc HA
      clear hdz hdn hdd HD
      have HQ : Hid ((m : Int) / 10 = ((m / 10 : Nat) : Int)) := (by show _ = _; omega)
      go_wp2
      go_roundw
      case rel => exact ⟨m / 10, d :: s, by rw [← HQ.out], by rw [show (⟨#[d]⟩ : ByteArray) = ⟨[d].toArray⟩ from rfl, cat2]; rfl, by omega, HX.out, HA.out⟩
      case measure => simp [intOf]; omega
    · have q : ¬ (9 : Int) < (m : Int) := by omega
      obtain ⟨d, hdd⟩ : ∃ d, UInt8.ofNat (48 + m) = d := ⟨_, rfl⟩
      have hdn : d.toNat = 48 + m := by rw [← hdd, UInt8.toNat_ofNat']; omega
      have hc := Tryz.conv1 wr d
      have HX : Hid (Lib.decDigits n = d :: s) := (by show _ = _; rw [HD.out, dec_one h9, hdd]; rfl)
      have HA : Hid (Below w.heap.size w (wr.alloc (.cells #[.int .u8 (d.toNat : Nat)] 5))) := HB.out.alloc HB.out.size _
      have hdz : ((d.toNat : Nat) : Int) = 48 + (m : Int) := by rw [hdn]; omega
      rw [hdz] at hc HA
      clear hdz hdn hdd HD
      go_wp2
      go_ret
      exact ⟨by rw [HX.out, show (⟨(d :: s).toArray⟩ : ByteArray) = ⟨#[d]⟩ ++ ⟨s.toArray⟩ from (cat2 [d] s).symm]; rfl, HA.out⟩
end Go.Proofs
namespace Go.Wb
open Go.RowKit Go.Proofs
theorem mayH_is (h : List UInt8 × List UInt8) : mayH h = (okTok true h.1 && isVal h.2 && !(h.1 == sCL) && !(h.1 == sTE) && !(h.1 == sCo)) := by
  rw [okTok_true]
  unfold mayH
  cases (h.1 == sCL) <;> cases (h.1 == sTE) <;> cases (h.1 == sCo) <;> cases isTok h.1 <;> cases (h.1.map sm == h.1) <;> cases isVal h.2 <;> rfl
def hostsOf (L : List (List UInt8 × List UInt8)) : Nat := if mayStand L then countOf L wHost else 0
theorem hostsOf_yes {L : List (List UInt8 × List UInt8)} (h : mayStand L = true) : hostsOf L = countOf L wHost := by unfold hostsOf; rw [h]; rfl
theorem hostsOf_no {L : List (List UInt8 × List UInt8)} (h : mayStand L = false) : hostsOf L = 0 := by unfold hostsOf; rw [h]; rfl
theorem cat5b (s a b : List UInt8) : (⟨s.toArray⟩ : ByteArray) ++ ⟨a.toArray⟩ ++ ⟨#[58, 32]⟩ ++ ⟨b.toArray⟩ ++ ⟨#[13, 10]⟩ = ⟨(s ++ (a ++ [58, 32] ++ b ++ [13, 10])).toArray⟩ := by
  apply ByteArray.ext
  simp [ByteArray.data_append]
end Go.Wb
namespace Go.Proofs
open Go.RowKit Go.Wi Go.Wb
set_option maxRecDepth 20000 in
set_option maxHeartbeats 2000000 in
theorem Tryz.rFine_any {w : World} {V : Value} {L : List (List UInt8 × List UInt8)} (h : Hs w V L) (hL : L.length ≤ 4611686018427387904) (hl : ∀ x ∈ L, x.1.length ≤ 140737488355328 ∧ x.2.length ≤ 140737488355328) :
    Calls Tryz.prog 25 #[V] w fun e w' => e = .returned (.tuple #[.bool (mayStand L), .int .i64 (hostsOf L)]) ∧ w' = w := by
  obtain ⟨ad, cap, rfl, hx⟩ := h.ex
  clear h
  have HX : Hid (L = [] ∨ ∃ g o, ad = some ⟨g, o, none⟩ ∧ g < w.heap.size ∧ ∀ j (hj : j < L.length), w.cell? ⟨g, o + j * 2, none⟩ = some (.string ⟨L[j].1.toArray⟩) ∧ w.cell? ⟨g, o + j * 2 + 1, none⟩ = some (.string ⟨L[j].2.toArray⟩)) := hx
  clear hx
  go_enter Tryz.func25, Tryz.ntmps25
  go_wp2
  go_loopw [4, 5, 6, 7, 8] (fun nv iv _ _ _ wr => ∃ i : Nat, iv = .int .i64 i ∧ i ≤ L.length ∧ nv = .int .i64 (countOf (L.take i) wHost) ∧ (L.take i).all mayH = true ∧ wr = w) (fun _ iv _ _ _ _ => L.length - (intOf iv).toNat)
  case atStart => exact ⟨0, rfl, Nat.zero_le _, rfl, rfl, rfl⟩
  case round =>
    obtain ⟨i, rfl, hi, rfl, ha, rfl⟩ := hrel
    have HA : Hid ((L.take i).all mayH = true) := ha
    clear ha
    by_cases hlt : i < L.length
    · have q : (i : Int) < (L.length : Int) := by omega
      obtain ⟨g, o, rfl, c0, c1⟩ : ∃ g o, ad = some ⟨g, o, none⟩ ∧ wr.cell? ⟨g, o + i * 2, none⟩ = some (.string ⟨L[i].1.toArray⟩) ∧ wr.cell? ⟨g, o + i * 2 + 1, none⟩ = some (.string ⟨L[i].2.toArray⟩) := by
        rcases HX.out with e | ⟨g, o, e, hg, hc⟩
        · rw [e] at hlt; cases hlt
        · exact ⟨g, o, e, hc i hlt⟩
      obtain ⟨hl1, hl2⟩ := hl L[i] (List.getElem_mem hlt)
      have hcl := count_le L wHost i
      have HM : Hid (mayH L[i] = (okTok true L[i].1 && isVal L[i].2 && !(L[i].1 == sCL) && !(L[i].1 == sTE) && !(L[i].1 == sCo))) := mayH_is L[i]
      have HN : Hid (mayH L[i] = false → mayStand L = false ∧ hostsOf L = 0) := fun e => ⟨may_not hlt e, hostsOf_no (may_not hlt e)⟩
      have HY : Hid (mayH L[i] = true → (L.take (i + 1)).all mayH = true) := fun e => may_next hlt HA.out e
      have HC1 : Hid ((L[i].1 == wHost) = true → countOf (L.take (i + 1)) wHost = countOf (L.take i) wHost + 1) := fun e => count_yes hlt e
      have HC0 : Hid ((L[i].1 == wHost) = false → countOf (L.take (i + 1)) wHost = countOf (L.take i) wHost) := fun e => count_no hlt e
      have k1 := Tryz.rIsToken_any L[i].1 (by omega) true wr
      have k2 := Tryz.rIsValue_any L[i].2 (by omega) wr
      generalize mayH L[i] = mh at *
      generalize L[i].1 = n at *
      generalize L[i].2 = v at *
      generalize okTok true n = b1 at *
      generalize isVal v = b2 at *
      have q3 : (n == [99, 111, 110, 116, 101, 110, 116, 45, 108, 101, 110, 103, 116, 104]) = (n == sCL) := rfl
      have q4 : (n == [116, 114, 97, 110, 115, 102, 101, 114, 45, 101, 110, 99, 111, 100, 105, 110, 103]) = (n == sTE) := rfl
      have q5 : (n == [99, 111, 110, 110, 101, 99, 116, 105, 111, 110]) = (n == sCo) := rfl
      have q6 : (n == [104, 111, 115, 116]) = (n == wHost) := rfl
      cases b1 with
      | false =>
        have HF := HN.out (by rw [HM.out]; rfl)
        have HFF : Hid _ := HF
        clear HF HM HN HY HC1 HC0 q3 q4 q5 q6
        go_wp2_with (first
          | (go_at_call 26; refine k1.mono ?_; clear k1; rintro e w1 ⟨rfl, rfl⟩)
          | (go_at_call 50; refine k2.mono ?_; clear k2; rintro e w1 ⟨rfl, rfl⟩)
          | fail)
        go_ret2
        exact ⟨by rw [HFF.out.1, HFF.out.2]; rfl, rfl⟩
      | true =>
      cases b2 with
      | false =>
        have HF := HN.out (by rw [HM.out]; rfl)
        have HFF : Hid _ := HF
        clear HF HM HN HY HC1 HC0 q3 q4 q5 q6
        go_wp2_with (first
          | (go_at_call 26; refine k1.mono ?_; clear k1; rintro e w1 ⟨rfl, rfl⟩)
          | (go_at_call 50; refine k2.mono ?_; clear k2; rintro e w1 ⟨rfl, rfl⟩)
          | fail)
        go_ret2
        exact ⟨by rw [HFF.out.1, HFF.out.2]; rfl, rfl⟩
      | true =>
      cases h3 : (n == sCL) with
      | true =>
        rw [h3] at q3
        have HF := HN.out (by rw [HM.out, h3]; rfl)
        have HFF : Hid _ := HF
        clear HF HM HN HY HC1 HC0 q4 q5 q6 h3
        go_wp2_with (first
          | (go_at_call 26; refine k1.mono ?_; clear k1; rintro e w1 ⟨rfl, rfl⟩)
          | (go_at_call 50; refine k2.mono ?_; clear k2; rintro e w1 ⟨rfl, rfl⟩)
          | fail)
        go_ret2
        exact ⟨by rw [HFF.out.1, HFF.out.2]; rfl, rfl⟩
      | false =>
      rw [h3] at q3
      cases h4 : (n == sTE) with
      | true =>
        rw [h4] at q4
        have HF := HN.out (by rw [HM.out, h3, h4]; rfl)
        have HFF : Hid _ := HF
        clear HF HM HN HY HC1 HC0 q5 q6 h3 h4
        go_wp2_with (first
          | (go_at_call 26; refine k1.mono ?_; clear k1; rintro e w1 ⟨rfl, rfl⟩)
          | (go_at_call 50; refine k2.mono ?_; clear k2; rintro e w1 ⟨rfl, rfl⟩)
          | fail)
        go_ret2
        exact ⟨by rw [HFF.out.1, HFF.out.2]; rfl, rfl⟩
      | false =>
      rw [h4] at q4
      cases h5 : (n == sCo) with
      | true =>
        rw [h5] at q5
        have HF := HN.out (by rw [HM.out, h3, h4, h5]; rfl)
        have HFF : Hid _ := HF
        clear HF HM HN HY HC1 HC0 q6 h3 h4 h5
        go_wp2_with (first
          | (go_at_call 26; refine k1.mono ?_; clear k1; rintro e w1 ⟨rfl, rfl⟩)
          | (go_at_call 50; refine k2.mono ?_; clear k2; rintro e w1 ⟨rfl, rfl⟩)
          | fail)
        go_ret2
        exact ⟨by rw [HFF.out.1, HFF.out.2]; rfl, rfl⟩
      | false =>
      rw [h5] at q5
      have HT : Hid ((L.take (i + 1)).all mayH = true) := HY.out (by rw [HM.out, h3, h4, h5]; rfl)
      clear HM HN HY h3 h4 h5
      cases h6 : (n == wHost) with
      | true =>
        rw [h6] at q6
        have HE := HC1.out h6
        have HEE : Hid _ := HE
        clear HE HC1 HC0 h6
        generalize countOf (L.take i) wHost = s0 at *
        go_wp2_with (first
          | (go_at_call 26; refine k1.mono ?_; clear k1; rintro e w1 ⟨rfl, rfl⟩)
          | (go_at_call 50; refine k2.mono ?_; clear k2; rintro e w1 ⟨rfl, rfl⟩)
          | fail)
        go_roundw
        case rel => exact ⟨i + 1, by simp, by omega, by rw [HEE.out]; simp, HT.out, trivial⟩
        case measure => simp [intOf]; omega
      | false =>
        rw [h6] at q6
        have HE := HC0.out h6
        have HEE : Hid _ := HE
        clear HE HC1 HC0 h6
        generalize countOf (L.take i) wHost = s0 at *
        go_wp2_with (first
          | (go_at_call 26; refine k1.mono ?_; clear k1; rintro e w1 ⟨rfl, rfl⟩)
          | (go_at_call 50; refine k2.mono ?_; clear k2; rintro e w1 ⟨rfl, rfl⟩)
          | fail)
        go_roundw
        case rel => exact ⟨i + 1, by simp, by omega, by rw [HEE.out], HT.out, trivial⟩
        case measure => simp [intOf]; omega
    · have q : ¬ (i : Int) < (L.length : Int) := by omega
      have HE : Hid (L.take i = L) := List.take_of_length_le (by omega)
      have HM : Hid (mayStand L = true) := (by have := HA.out; rw [HE.out] at this; exact this)
      have HH : Hid (hostsOf L = countOf L wHost) := hostsOf_yes HM.out
      rw [HE.out]
      clear HE HA
      generalize countOf L wHost = s0 at *
      go_wp2
      go_ret2
      exact ⟨by rw [HM.out, HH.out]; rfl, rfl⟩
set_option maxRecDepth 20000 in
set_option maxHeartbeats 2000000 in
theorem Tryz.rLines_any {w : World} {V : Value} {L : List (List UInt8 × List UInt8)} (h : Hs w V L) (hL : L.length ≤ 4611686018427387904) (hT : (headText L).length ≤ 4611686018427387904) :
    Calls Tryz.prog 29 #[V] w fun e w' => e = .returned (.string ⟨(headText L).toArray⟩) ∧ ∃ n, w' = w.drewN n := by
  obtain ⟨ad, cap, rfl, hx⟩ := h.ex
  clear h
  have HX : Hid (L = [] ∨ ∃ g o, ad = some ⟨g, o, none⟩ ∧ g < w.heap.size ∧ ∀ j (hj : j < L.length), w.cell? ⟨g, o + j * 2, none⟩ = some (.string ⟨L[j].1.toArray⟩) ∧ w.cell? ⟨g, o + j * 2 + 1, none⟩ = some (.string ⟨L[j].2.toArray⟩)) := hx
  have HTL : Hid (∀ i, (headText (L.take i)).length ≤ 4611686018427387904) := fun i => (by
    rw [headText_len] at hT ⊢
    exact Nat.le_trans (sum_take_le L _ i) hT)
  clear hx hT
  go_enter Tryz.func29, Tryz.ntmps29
  go_wp2
  go_loopw [3, 4] (fun sv iv wr => ∃ i : Nat, iv = .int .i64 i ∧ i ≤ L.length ∧ sv = .string ⟨(headText (L.take i)).toArray⟩ ∧ ∃ n, wr = w.drewN n) (fun _ iv _ => L.length - (intOf iv).toNat)
  case atStart => exact ⟨0, rfl, Nat.zero_le _, rfl, 0, rfl⟩
  case round =>
    obtain ⟨i, rfl, hi, rfl, nn, hw⟩ := hrel
    have HW : Hid (wr = w.drewN nn) := hw
    clear hw
    by_cases hlt : i < L.length
    · have q : (i : Int) < (L.length : Int) := by omega
      obtain ⟨g, o, rfl, c0, c1⟩ : ∃ g o, ad = some ⟨g, o, none⟩ ∧ wr.cell? ⟨g, o + i * 2, none⟩ = some (.string ⟨L[i].1.toArray⟩) ∧ wr.cell? ⟨g, o + i * 2 + 1, none⟩ = some (.string ⟨L[i].2.toArray⟩) := by
        rcases HX.out with e | ⟨g, o, e, hg, hc⟩
        · rw [e] at hlt; cases hlt
        · rw [HW.out]; exact ⟨g, o, e, hc i hlt⟩
      have HN : Hid (headText (L.take (i + 1)) = headText (L.take i) ++ (L[i].1 ++ [58, 32] ++ L[i].2 ++ [13, 10])) := headText_next hlt
      have hb1 := HTL.out (i + 1)
      rw [HN.out] at hb1
      simp only [List.length_append, List.length_cons, List.length_nil] at hb1
      generalize headText (L.take i) = s at *
      generalize L[i].1 = n at *
      generalize L[i].2 = v at *
      have z1 := text_size s
      have z2 := text_size n
      have z3 := text_size v
      have a1 : ¬ 9223372036854775807 < s.length + n.length := by omega
      have a2 : ¬ 9223372036854775807 < s.length + n.length + 2 := by omega
      have a3 : ¬ 9223372036854775807 < s.length + n.length + 2 + v.length := by omega
      have a4 : ¬ 9223372036854775807 < s.length + n.length + 2 + v.length + 2 := by omega
      clear hb1
      go_upto_region 5 with (fail)
      go_quiet (fail)
      go_wp2
      go_roundw
      case rel => exact ⟨i + 1, by simp, by omega, by rw [HN.out, cat5b], _, by rw [HW.out, World.drewN_drewN]⟩
      case measure => simp [intOf]; omega
    · have q : ¬ (i : Int) < (L.length : Int) := by omega
      have HE : Hid (L.take i = L) := List.take_of_length_le (by omega)
      rw [HE.out]
      clear HE
      go_wp2
      go_ret
      exact ⟨rfl, nn, HW.out⟩
end Go.Proofs
namespace Go.Proofs
open Go.RowKit Go.Wi Go.Wb
set_option maxRecDepth 20000 in
set_option maxHeartbeats 2000000 in
theorem Tryz.rReason_any (n : Int) (w : World) : Calls Tryz.prog 12 #[.int .i64 n] w fun e w' => e = .returned (.string ⟨(reason n).toArray⟩) ∧ w' = w := by
  unfold reason
  by_cases h200 : n = 200
  · subst h200
    go_enter Tryz.func12, Tryz.ntmps12
    go_wp2
    go_ret
    exact ⟨rfl, rfl⟩
  rw [if_neg h200]
  have b200 : (n == 200) = false := by simpa using h200
  clear h200
  by_cases h201 : n = 201
  · subst h201
    go_enter Tryz.func12, Tryz.ntmps12
    go_wp2
    go_ret
    exact ⟨rfl, rfl⟩
  rw [if_neg h201]
  have b201 : (n == 201) = false := by simpa using h201
  clear h201
  by_cases h204 : n = 204
  · subst h204
    go_enter Tryz.func12, Tryz.ntmps12
    go_wp2
    go_ret
    exact ⟨rfl, rfl⟩
  rw [if_neg h204]
  have b204 : (n == 204) = false := by simpa using h204
  clear h204
  by_cases h304 : n = 304
  · subst h304
    go_enter Tryz.func12, Tryz.ntmps12
    go_wp2
    go_ret
    exact ⟨rfl, rfl⟩
  rw [if_neg h304]
  have b304 : (n == 304) = false := by simpa using h304
  clear h304
  by_cases h400 : n = 400
  · subst h400
    go_enter Tryz.func12, Tryz.ntmps12
    go_wp2
    go_ret
    exact ⟨rfl, rfl⟩
  rw [if_neg h400]
  have b400 : (n == 400) = false := by simpa using h400
  clear h400
  by_cases h401 : n = 401
  · subst h401
    go_enter Tryz.func12, Tryz.ntmps12
    go_wp2
    go_ret
    exact ⟨rfl, rfl⟩
  rw [if_neg h401]
  have b401 : (n == 401) = false := by simpa using h401
  clear h401
  by_cases h403 : n = 403
  · subst h403
    go_enter Tryz.func12, Tryz.ntmps12
    go_wp2
    go_ret
    exact ⟨rfl, rfl⟩
  rw [if_neg h403]
  have b403 : (n == 403) = false := by simpa using h403
  clear h403
  by_cases h404 : n = 404
  · subst h404
    go_enter Tryz.func12, Tryz.ntmps12
    go_wp2
    go_ret
    exact ⟨rfl, rfl⟩
  rw [if_neg h404]
  have b404 : (n == 404) = false := by simpa using h404
  clear h404
  by_cases h405 : n = 405
  · subst h405
    go_enter Tryz.func12, Tryz.ntmps12
    go_wp2
    go_ret
    exact ⟨rfl, rfl⟩
  rw [if_neg h405]
  have b405 : (n == 405) = false := by simpa using h405
  clear h405
  by_cases h408 : n = 408
  · subst h408
    go_enter Tryz.func12, Tryz.ntmps12
    go_wp2
    go_ret
    exact ⟨rfl, rfl⟩
  rw [if_neg h408]
  have b408 : (n == 408) = false := by simpa using h408
  clear h408
  by_cases h409 : n = 409
  · subst h409
    go_enter Tryz.func12, Tryz.ntmps12
    go_wp2
    go_ret
    exact ⟨rfl, rfl⟩
  rw [if_neg h409]
  have b409 : (n == 409) = false := by simpa using h409
  clear h409
  by_cases h410 : n = 410
  · subst h410
    go_enter Tryz.func12, Tryz.ntmps12
    go_wp2
    go_ret
    exact ⟨rfl, rfl⟩
  rw [if_neg h410]
  have b410 : (n == 410) = false := by simpa using h410
  clear h410
  by_cases h411 : n = 411
  · subst h411
    go_enter Tryz.func12, Tryz.ntmps12
    go_wp2
    go_ret
    exact ⟨rfl, rfl⟩
  rw [if_neg h411]
  have b411 : (n == 411) = false := by simpa using h411
  clear h411
  by_cases h413 : n = 413
  · subst h413
    go_enter Tryz.func12, Tryz.ntmps12
    go_wp2
    go_ret
    exact ⟨rfl, rfl⟩
  rw [if_neg h413]
  have b413 : (n == 413) = false := by simpa using h413
  clear h413
  by_cases h414 : n = 414
  · subst h414
    go_enter Tryz.func12, Tryz.ntmps12
    go_wp2
    go_ret
    exact ⟨rfl, rfl⟩
  rw [if_neg h414]
  have b414 : (n == 414) = false := by simpa using h414
  clear h414
  by_cases h415 : n = 415
  · subst h415
    go_enter Tryz.func12, Tryz.ntmps12
    go_wp2
    go_ret
    exact ⟨rfl, rfl⟩
  rw [if_neg h415]
  have b415 : (n == 415) = false := by simpa using h415
  clear h415
  by_cases h422 : n = 422
  · subst h422
    go_enter Tryz.func12, Tryz.ntmps12
    go_wp2
    go_ret
    exact ⟨rfl, rfl⟩
  rw [if_neg h422]
  have b422 : (n == 422) = false := by simpa using h422
  clear h422
  by_cases h429 : n = 429
  · subst h429
    go_enter Tryz.func12, Tryz.ntmps12
    go_wp2
    go_ret
    exact ⟨rfl, rfl⟩
  rw [if_neg h429]
  have b429 : (n == 429) = false := by simpa using h429
  clear h429
  by_cases h431 : n = 431
  · subst h431
    go_enter Tryz.func12, Tryz.ntmps12
    go_wp2
    go_ret
    exact ⟨rfl, rfl⟩
  rw [if_neg h431]
  have b431 : (n == 431) = false := by simpa using h431
  clear h431
  by_cases h500 : n = 500
  · subst h500
    go_enter Tryz.func12, Tryz.ntmps12
    go_wp2
    go_ret
    exact ⟨rfl, rfl⟩
  rw [if_neg h500]
  have b500 : (n == 500) = false := by simpa using h500
  clear h500
  by_cases h501 : n = 501
  · subst h501
    go_enter Tryz.func12, Tryz.ntmps12
    go_wp2
    go_ret
    exact ⟨rfl, rfl⟩
  rw [if_neg h501]
  have b501 : (n == 501) = false := by simpa using h501
  clear h501
  by_cases h503 : n = 503
  · subst h503
    go_enter Tryz.func12, Tryz.ntmps12
    go_wp2
    go_ret
    exact ⟨rfl, rfl⟩
  rw [if_neg h503]
  have b503 : (n == 503) = false := by simpa using h503
  clear h503
  by_cases h505 : n = 505
  · subst h505
    go_enter Tryz.func12, Tryz.ntmps12
    go_wp2
    go_ret
    exact ⟨rfl, rfl⟩
  rw [if_neg h505]
  have b505 : (n == 505) = false := by simpa using h505
  clear h505
  by_cases h507 : n = 507
  · subst h507
    go_enter Tryz.func12, Tryz.ntmps12
    go_wp2
    go_ret
    exact ⟨rfl, rfl⟩
  rw [if_neg h507]
  have b507 : (n == 507) = false := by simpa using h507
  clear h507
  go_enter Tryz.func12, Tryz.ntmps12
  go_wp2
  go_ret
  exact ⟨rfl, rfl⟩
end Go.Proofs
