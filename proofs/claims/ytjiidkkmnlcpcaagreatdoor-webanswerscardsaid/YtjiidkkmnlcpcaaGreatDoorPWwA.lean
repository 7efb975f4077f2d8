/-
  Laid together by packg.py of WwA.
-/
import Derived.Test.YtjiidkkmnlcpcaaGreatDoorPYi
import Derived.Test.YtjiidkkmnlcpcaaGreatDoorPaQ
namespace Go.Wb
theorem blank_all : ∀ n, n < 256 → ([32, 9] : List UInt8).contains (UInt8.ofNat n) = blank (UInt8.ofNat n) := by decide +kernel
theorem blank_is (c : UInt8) : ([32, 9] : List UInt8).contains c = blank c := by
  have h := blank_all c.toNat c.toNat_lt
  rwa [UInt8.ofNat_toNat] at h
theorem dw_head {p : UInt8 → Bool} : ∀ {x l : List UInt8}, x.dropWhile p = l → ∀ b, l[0]? = some b → p b = false
  | [], l, h, b, hb => by
    have : l = [] := by rw [← h]; rfl
    subst this; cases hb
  | a :: t, l, h, b, hb => by
    rw [List.dropWhile_cons] at h
    cases hp : p a with
    | true => rw [hp, if_pos rfl] at h; exact dw_head h b hb
    | false =>
      rw [hp, if_neg (by decide)] at h
      subst h
      cases hb
      exact hp
theorem dw_len (p : UInt8 → Bool) : ∀ x : List UInt8, (x.dropWhile p).length ≤ x.length
  | [] => Nat.le_refl _
  | a :: t => by
    rw [List.dropWhile_cons]
    split
    · exact Nat.le_trans (dw_len p t) (Nat.le_succ _)
    · exact Nat.le_refl _
theorem dw_same (p : UInt8 → Bool) : ∀ x : List UInt8, x.length ≤ (x.dropWhile p).length → x.dropWhile p = x
  | [], _ => rfl
  | a :: t, h => by
    rw [List.dropWhile_cons] at h ⊢
    split at h
    · have := dw_len p t
      simp only [List.length_cons] at h
      omega
    · next hp => rw [if_neg hp]
/-- A text is its own trimming just if it neither begins nor ends with a blank. -/
theorem trim_iff (l : List UInt8) : trim l = l ↔ (∀ b, l[0]? = some b → blank b = false) ∧ (∀ b, l[l.length - 1]? = some b → blank b = false) := by
  constructor
  · intro h
    have h1 : (Lib.trimRightS l [32, 9]).dropWhile (([32, 9] : List UInt8).contains ·) = l := h
    refine ⟨fun b hb => by rw [← blank_is]; exact dw_head h1 b hb, fun b hb => ?_⟩
    have h2 := dw_len (([32, 9] : List UInt8).contains ·) (Lib.trimRightS l [32, 9])
    rw [h1] at h2
    unfold Lib.trimRightS at h2
    rw [List.length_reverse] at h2
    have h3 := dw_same (([32, 9] : List UInt8).contains ·) l.reverse (by rw [List.length_reverse]; exact h2)
    rw [← blank_is]
    refine dw_head h3 b ?_
    have hl : 0 < l.length := by
      rcases Nat.eq_zero_or_pos l.length with e | e
      · rw [List.getElem?_eq_none (by omega)] at hb; cases hb
      · exact e
    rw [List.getElem?_reverse hl]
    simpa using hb
  · rintro ⟨h0, h1⟩
    have e : Lib.trimRightS l [32, 9] = l := by
      rw [Lib.trimRightS_take l [32, 9] l.length (Nat.le_refl _) (fun j b hj hb => by rw [List.getElem?_eq_none hj] at hb; cases hb) (fun b _ hb => by rw [blank_is]; exact h1 b hb), List.take_length]
    show Lib.trimLeftS (Lib.trimRightS l [32, 9]) [32, 9] = l
    rw [e, Lib.trimLeftS_drop l [32, 9] 0 (Nat.zero_le _) (fun j b hj _ => by cases hj) (fun b hb => by rw [blank_is]; exact h0 b hb)]
    rfl
theorem extT (r : List UInt8) (m : Nat) : (⟨r.toArray⟩ : ByteArray).extract 0 m = ⟨(r.take m).toArray⟩ := by
  apply ByteArray.ext
  simp [ByteArray.data_extract]
theorem extD (r : List UInt8) (m : Nat) : (⟨r.toArray⟩ : ByteArray).extract m r.length = ⟨(r.drop m).toArray⟩ := by
  apply ByteArray.ext
  simp [ByteArray.data_extract, List.take_of_length_le]
def strN : Value → Nat | .string b => b.size | _ => 0
section
variable {l r : List UInt8}
theorem trim_step1 (H : trim l = l ↔ (∀ b, l[0]? = some b → blank b = false) ∧ (∀ b, l[l.length - 1]? = some b → blank b = false)) (h0 : 0 < r.length) (h : r = l ∨ (r.length < l.length ∧ ¬ trim l = l)) : blank r[0] = true → (r.drop 1).length < l.length ∧ ¬ trim l = l := by
  intro hb
  rw [List.length_drop]
  rcases h with rfl | ⟨h1, h2⟩
  · refine ⟨by omega, fun e => ?_⟩
    have := (H.1 e).1 r[0] (List.getElem?_eq_getElem h0)
    rw [hb] at this; cases this
  · exact ⟨by omega, h2⟩
theorem trim_out1 (h0 : 0 < r.length) (h : r = l ∨ (r.length < l.length ∧ ¬ trim l = l)) : blank r[0] = false → (r = l ∧ ∀ b, l[0]? = some b → blank b = false) ∨ (r.length < l.length ∧ ¬ trim l = l) := by
  intro hb
  rcases h with rfl | h
  · refine .inl ⟨rfl, fun b e => ?_⟩
    rw [List.getElem?_eq_getElem h0] at e
    cases e
    exact hb
  · exact .inr h
theorem trim_out0 (h0 : r = []) (h : r = l ∨ (r.length < l.length ∧ ¬ trim l = l)) : (r = l ∧ ∀ b, l[0]? = some b → blank b = false) ∨ (r.length < l.length ∧ ¬ trim l = l) := by
  rcases h with rfl | h
  · subst h0
    exact .inl ⟨rfl, fun b e => by cases e⟩
  · exact .inr h
theorem trim_end0 (H : trim l = l ↔ (∀ b, l[0]? = some b → blank b = false) ∧ (∀ b, l[l.length - 1]? = some b → blank b = false)) (h0 : r = []) (h : (r = l ∧ ∀ b, l[0]? = some b → blank b = false) ∨ (r.length < l.length ∧ ¬ trim l = l)) : r = l ↔ trim l = l := by
  rcases h with ⟨rfl, _⟩ | ⟨h1, h2⟩
  · subst h0
    exact ⟨fun _ => rfl, fun _ => rfl⟩
  · exact ⟨fun e => by rw [e] at h1; omega, fun e => absurd e h2⟩
theorem trim_step2 (H : trim l = l ↔ (∀ b, l[0]? = some b → blank b = false) ∧ (∀ b, l[l.length - 1]? = some b → blank b = false)) (h0 : r.length - 1 < r.length) (h : (r = l ∧ ∀ b, l[0]? = some b → blank b = false) ∨ (r.length < l.length ∧ ¬ trim l = l)) : blank r[r.length - 1] = true → ((r.take (r.length - 1)) = l ∧ ∀ b, l[0]? = some b → blank b = false) ∨ ((r.take (r.length - 1)).length < l.length ∧ ¬ trim l = l) := by
  intro hb
  rw [List.length_take]
  rcases h with ⟨rfl, _⟩ | ⟨h1, h2⟩
  · refine .inr ⟨by omega, fun e => ?_⟩
    have := (H.1 e).2 r[r.length - 1] (List.getElem?_eq_getElem h0)
    rw [hb] at this; cases this
  · exact .inr ⟨by omega, h2⟩
theorem trim_end (H : trim l = l ↔ (∀ b, l[0]? = some b → blank b = false) ∧ (∀ b, l[l.length - 1]? = some b → blank b = false)) (h0 : r.length - 1 < r.length) (h : (r = l ∧ ∀ b, l[0]? = some b → blank b = false) ∨ (r.length < l.length ∧ ¬ trim l = l)) : blank r[r.length - 1] = false → (r = l ↔ trim l = l) := by
  intro hb
  rcases h with ⟨rfl, h1⟩ | ⟨h1, h2⟩
  · refine ⟨fun _ => H.2 ⟨h1, fun b e => ?_⟩, fun _ => rfl⟩
    rw [List.getElem?_eq_getElem h0] at e
    cases e
    exact hb
  · exact ⟨fun e => by rw [e] at h1; omega, fun e => absurd e h2⟩
end
open Go.RowKit Go.Proofs in
theorem wrap_u8 (d : UInt8) : wrap64 ((d.toNat : Nat) : Int) = ((d.toNat : Nat) : Int) := by
  have := d.toNat_lt
  unfold wrap64
  omega
theorem mark_no {c : UInt8} {i : Nat} (hi : i < marks.length) (h : (marks.take i).contains c = false) (hp : ¬ marks[i] = c) : (marks.take (i + 1)).contains c = false := by
  rw [Bool.eq_false_iff]
  intro h2
  rw [List.contains_iff_mem, List.take_add_one, List.getElem?_eq_getElem hi, List.mem_append] at h2
  rcases h2 with h2 | h2
  · rw [List.contains_iff_mem.2 h2] at h; cases h
  · simp at h2; exact hp h2.symm
theorem mark_yes {c : UInt8} {i : Nat} (hi : i < marks.length) (hp : marks[i] = c) : marks.contains c = true := by
  rw [List.contains_iff_mem, ← hp]
  exact List.getElem_mem hi
end Go.Wb
namespace Go.Proofs
open Go.RowKit Go.Wi Go.Wb
set_option maxHeartbeats 1000000 in
set_option maxRecDepth 20000 in
theorem Tryz.rTok_any (c : UInt8) (w : World) : Calls Tryz.prog 91 #[.int .i64 c.toNat] w fun e w' => e = .returned (.bool (tok c)) ∧ w' = w := by
  have hd : tok c = (dig c || great c || (decide (97 ≤ c.toNat) && decide (c.toNat ≤ 122)) || marks.contains c) := rfl
  by_cases h : dig c = true ∨ great c = true ∨ (97 ≤ c.toNat ∧ c.toNat ≤ 122)
  · have hT : tok c = true := by
      rw [hd]
      rcases h with h | h | h
      · rw [h]; rfl
      · rw [h]; simp
      · rw [decide_eq_true h.1, decide_eq_true h.2]; simp
    rw [hT]
    have hs : (48 ≤ c.toNat ∧ c.toNat ≤ 57) ∨ (65 ≤ c.toNat ∧ c.toNat ≤ 90) ∨ (97 ≤ c.toNat ∧ c.toNat ≤ 122) := by simpa [dig, great] using h
    clear hd hT h
    generalize c.toNat = n at *
    rcases hs with ⟨a1, a2⟩ | ⟨a1, a2⟩ | ⟨a1, a2⟩
    · have q1 : (48 : Int) ≤ (n : Int) := by omega
      have q2 : (n : Int) ≤ 57 := by omega
      go_enter Tryz.func91, Tryz.ntmps91
      go_wp2
      go_ret
      exact ⟨rfl, rfl⟩
    · have q1 : (48 : Int) ≤ (n : Int) := by omega
      have q2 : ¬ (n : Int) ≤ 57 := by omega
      have q3 : (65 : Int) ≤ (n : Int) := by omega
      have q4 : (n : Int) ≤ 90 := by omega
      go_enter Tryz.func91, Tryz.ntmps91
      go_wp2
      go_ret
      exact ⟨rfl, rfl⟩
    · have q1 : (48 : Int) ≤ (n : Int) := by omega
      have q2 : ¬ (n : Int) ≤ 57 := by omega
      have q3 : (65 : Int) ≤ (n : Int) := by omega
      have q4 : ¬ (n : Int) ≤ 90 := by omega
      have q5 : (97 : Int) ≤ (n : Int) := by omega
      have q6 : (n : Int) ≤ 122 := by omega
      go_enter Tryz.func91, Tryz.ntmps91
      go_wp2
      go_ret
      exact ⟨rfl, rfl⟩
  · have hD : dig c = false := by rw [Bool.eq_false_iff]; exact fun e => h (.inl e)
    have hG : great c = false := by rw [Bool.eq_false_iff]; exact fun e => h (.inr (.inl e))
    have hS : (decide (97 ≤ c.toNat) && decide (c.toNat ≤ 122)) = false := by
      rw [Bool.eq_false_iff]
      intro e
      simp only [Bool.and_eq_true, decide_eq_true_eq] at e
      exact h (.inr (.inr e))
    have HT : Hid (tok c = marks.contains c) := (by show tok c = _; rw [hd, hD, hG, hS]; rfl)
    have hn : ¬ (48 ≤ c.toNat ∧ c.toNat ≤ 57) ∧ ¬ (65 ≤ c.toNat ∧ c.toNat ≤ 90) ∧ ¬ (97 ≤ c.toNat ∧ c.toNat ≤ 122) := by
      refine ⟨fun e => ?_, fun e => ?_, fun e => h (.inr (.inr e))⟩
      · exact h (.inl (by simp only [dig, decide_eq_true e.1, decide_eq_true e.2]; rfl))
      · exact h (.inr (.inl (by simp only [great, decide_eq_true e.1, decide_eq_true e.2]; rfl)))
    clear hd hD hG hS h
    have hlt : c.toNat < 256 := c.toNat_lt
    have hM : (⟨#[33, 35, 36, 37, 38, 39, 42, 43, 45, 46, 94, 95, 96, 124, 126]⟩ : ByteArray) = ⟨marks.toArray⟩ := rfl
    have hml : marks.length = 15 := rfl
    have HZ : Hid ((⟨#[33, 35, 36, 37, 38, 39, 42, 43, 45, 46, 94, 95, 96, 124, 126]⟩ : ByteArray) = ⟨marks.toArray⟩) := hM
    have HL : Hid (marks.length = 15) := hml
    have HI : Hid (∀ i (h : i < 15), marks[i]'(by rw [HL.out]; exact h) = c → tok c = true) := fun i h e => (by rw [HT.out]; exact mark_yes _ e)
    have HJ : Hid (∀ i (h : i < 15), (marks.take i).contains c = false → ¬ marks[i]'(by rw [HL.out]; exact h) = c → (marks.take (i + 1)).contains c = false) := fun i h e1 e2 => mark_no (by rw [HL.out]; exact h) e1 e2
    have HK : Hid ((marks.take 15).contains c = false → tok c = false) := fun e => (by rw [HT.out]; exact e)
    obtain ⟨hn1, hn2, hn3⟩ := hn
    clear hM hml
    by_cases q1 : (48 : Int) ≤ (c.toNat : Int) <;> by_cases q2 : (c.toNat : Int) ≤ 57 <;> by_cases q3 : (65 : Int) ≤ (c.toNat : Int) <;> by_cases q4 : (c.toNat : Int) ≤ 90 <;> by_cases q5 : (97 : Int) ≤ (c.toNat : Int) <;> by_cases q6 : (c.toNat : Int) ≤ 122 <;> first
      | (exfalso; omega)
      | (clear hn1 hn2 hn3
         go_enter Tryz.func91, Tryz.ntmps91
         go_wp2
         go_loopw [4] (fun iv wr => ∃ i : Nat, iv = .int .i64 i ∧ i ≤ 15 ∧ (marks.take i).contains c = false ∧ wr = w) (fun iv _ => 15 - (intOf iv).toNat)
         case atStart => exact ⟨0, rfl, Nat.zero_le _, rfl, rfl⟩
         case round =>
           obtain ⟨i, rfl, hi, ha, rfl⟩ := hrel
           have HA : Hid ((marks.take i).contains c = false) := ha
           clear ha
           by_cases hlt : i < 15
           · have q : (i : Int) < (15 : Int) := by omega
             have hil : i < marks.length := by rw [HL.out]; exact hlt
             obtain ⟨d, hde⟩ : ∃ d, marks[i]'hil = d := ⟨_, rfl⟩
             have hix : ∀ h : i < (⟨#[33, 35, 36, 37, 38, 39, 42, 43, 45, 46, 94, 95, 96, 124, 126]⟩ : ByteArray).size, (⟨#[33, 35, 36, 37, 38, 39, 42, 43, 45, 46, 94, 95, 96, 124, 126]⟩ : ByteArray)[i]'h = d := fun h => (at_text hil h).trans hde
             have HX1 : Hid (d = c → tok c = true) := fun e => HI.out i hlt (hde.trans e)
             have HX2 : Hid (¬ d = c → (marks.take (i + 1)).contains c = false) := fun e => HJ.out i hlt HA.out fun e2 => e (hde.symm.trans e2)
             clear HI HJ hde
             have hwd : wrap64 ((d.toNat : Nat) : Int) = ((d.toNat : Nat) : Int) := wrap_u8 d
             by_cases hd : d = c
             · have qd : (((d.toNat : Nat) : Int) == (c.toNat : Int)) = true := by rw [hd]; simp
               have HE := HX1.out hd
               have HEE : Hid (tok c = true) := HE
               clear HE hd HX1 HX2
               go_wp2
               go_ret
               exact ⟨by rw [HEE.out]; rfl, rfl⟩
             · have qd : (((d.toNat : Nat) : Int) == (c.toNat : Int)) = false := by
                 simp only [beq_eq_false_iff_ne, ne_eq]
                 exact fun e => hd (UInt8.toNat_inj.1 (by omega))
               have HE : Hid ((marks.take (i + 1)).contains c = false) := HX2.out hd
               clear hd HX1 HX2
               go_wp2
               go_roundw
               case rel => exact ⟨i + 1, by simp, by omega, HE.out, trivial⟩
               case measure => simp [intOf]; omega
           · have q : ¬ (i : Int) < (15 : Int) := by omega
             have HE : Hid (tok c = false) := HK.out (by rw [show (15 : Nat) = i by omega]; exact HA.out)
             go_wp2
             go_ret
             exact ⟨by rw [HE.out]; rfl, rfl⟩)
set_option maxHeartbeats 1000000 in
theorem Tryz.rVal_any (c : UInt8) (w : World) : Calls Tryz.prog 90 #[.int .i64 c.toNat] w fun e w' => e = .returned (.bool (txt c)) ∧ w' = w := by
  have hd : txt c = (c.toNat == 9 || (decide (32 ≤ c.toNat) && decide (c.toNat ≤ 126)) || decide (128 ≤ c.toNat)) := rfl
  rw [hd]
  generalize c.toNat = n at *
  clear hd
  by_cases h : n = 9
  · have q : ((n : Int) == 9) = true := by simp; omega
    go_enter Tryz.func90, Tryz.ntmps90
    go_wp2
    go_ret
    exact ⟨by rw [h]; rfl, rfl⟩
  · have q : ((n : Int) == 9) = false := by simp; omega
    have h1 : (n == 9) = false := by simpa using h
    rw [h1, Bool.false_or]
    by_cases h2 : 32 ≤ n
    · have q2 : (32 : Int) ≤ (n : Int) := by omega
      rw [decide_eq_true h2, Bool.true_and]
      by_cases h3 : n ≤ 126
      · have q3 : (n : Int) ≤ 126 := by omega
        rw [decide_eq_true h3, Bool.true_or]
        go_enter Tryz.func90, Tryz.ntmps90
        go_wp2
        go_ret
        exact ⟨rfl, rfl⟩
      · have q3 : ¬ (n : Int) ≤ 126 := by omega
        rw [decide_eq_false h3, Bool.false_or]
        go_enter Tryz.func90, Tryz.ntmps90
        go_wp2
        go_ret
        exact ⟨by simp; omega, rfl⟩
    · have q2 : ¬ (32 : Int) ≤ (n : Int) := by omega
      rw [decide_eq_false h2, Bool.false_and, Bool.false_or]
      go_enter Tryz.func90, Tryz.ntmps90
      go_wp2
      go_ret
      exact ⟨by simp; omega, rfl⟩
set_option maxRecDepth 20000 in
set_option maxHeartbeats 1000000 in
/-- The document's trimmed: it is the text itself just if the text is its own trimming. -/
theorem Tryz.rTrim_any (l : List UInt8) (hl : l.length ≤ 9223372036854775807) (w : World) :
    Calls Tryz.prog 93 #[.string ⟨l.toArray⟩] w fun e w' => (∃ r : List UInt8, e = .returned (.string ⟨r.toArray⟩) ∧ (r = l ↔ trim l = l)) ∧ w' = w := by
  have HT : Hid (trim l = l ↔ (∀ b, l[0]? = some b → Wb.blank b = false) ∧ (∀ b, l[l.length - 1]? = some b → Wb.blank b = false)) := trim_iff l
  go_enter Tryz.func93, Tryz.ntmps93
  go_wp2
  go_loopw [0] (fun sv wr => ∃ r : List UInt8, sv = .string ⟨r.toArray⟩ ∧ (r = l ∨ (r.length < l.length ∧ ¬ trim l = l)) ∧ r.length ≤ 9223372036854775807 ∧ wr = w) (fun sv _ => strN sv)
  case atStart => exact ⟨l, rfl, .inl rfl, hl, rfl⟩
  case round =>
    obtain ⟨r, rfl, hr, hrl, rfl⟩ := hrel
    have HR : Hid (r = l ∨ (r.length < l.length ∧ ¬ trim l = l)) := hr
    clear hr hl
    have hz : (⟨r.toArray⟩ : ByteArray).size = r.length := text_size r
    by_cases h0 : r.length = 0
    · have q0 : ¬ (r.length : Int) > 0 := by omega
      have HO : Hid ((r = l ∧ ∀ b, l[0]? = some b → Wb.blank b = false) ∨ (r.length < l.length ∧ ¬ trim l = l)) := trim_out0 (List.eq_nil_of_length_eq_zero h0) HR.out
      have hix : True := trivial
      clear HR h0
      go_wp2
      go_loopw [0] (fun sv wz => ∃ r : List UInt8, sv = .string ⟨r.toArray⟩ ∧ ((r = l ∧ ∀ b, l[0]? = some b → Wb.blank b = false) ∨ (r.length < l.length ∧ ¬ trim l = l)) ∧ r.length ≤ 9223372036854775807 ∧ wz = wr) (fun sv _ => strN sv)
      case atStart => exact ⟨r, rfl, HO.out, hrl, rfl⟩
      case round =>
        clear HO hix hz hrl
        obtain ⟨s, rfl, hs, hrl, rfl⟩ := hrel
        have HS : Hid ((s = l ∧ ∀ b, l[0]? = some b → Wb.blank b = false) ∨ (s.length < l.length ∧ ¬ trim l = l)) := hs
        clear hs
        have hz : (⟨s.toArray⟩ : ByteArray).size = s.length := text_size s
        by_cases h0 : s.length = 0
        · have q0 : ¬ (s.length : Int) > 0 := by omega
          have HF : Hid (s = l ↔ trim l = l) := trim_end0 HT.out (List.eq_nil_of_length_eq_zero h0) HS.out
          clear h0
          go_wp2
          go_ret
          exact ⟨⟨s, rfl, HF.out⟩, rfl⟩
        · have q0 : (s.length : Int) > 0 := by omega
          have hlt : s.length - 1 < s.length := by omega
          have hw : IntKind.i64.wrap ((s.length : Int) - 1) = ((s.length - 1 : Nat) : Int) := by rw [IntKind.wrap_i64]; omega
          obtain ⟨c, hde⟩ : ∃ c, s[s.length - 1]'hlt = c := ⟨_, rfl⟩
          have hix : ∀ h : s.length - 1 < (⟨s.toArray⟩ : ByteArray).size, (⟨s.toArray⟩ : ByteArray)[s.length - 1]'h = c := fun h => (at_text hlt h).trans hde
          have HB : Hid (Wb.blank c = true → ((s.take (s.length - 1)) = l ∧ ∀ b, l[0]? = some b → Wb.blank b = false) ∨ ((s.take (s.length - 1)).length < l.length ∧ ¬ trim l = l)) := fun e => trim_step2 HT.out hlt HS.out (by rw [hde]; exact e)
          have HN : Hid (Wb.blank c = false → (s = l ↔ trim l = l)) := fun e => trim_end HT.out hlt HS.out (by rw [hde]; exact e)
          clear hde
          by_cases h32 : c.toNat = 32
          · have q1 : (((c.toNat : Nat) : Int) == 32) = true := by rw [h32]; rfl
            have HR : Hid (((s.take (s.length - 1)) = l ∧ ∀ b, l[0]? = some b → Wb.blank b = false) ∨ ((s.take (s.length - 1)).length < l.length ∧ ¬ trim l = l)) := HB.out (by simp [Wb.blank, h32])
            clear HB HN h32
            go_wp2
            go_roundw
            case rel => exact ⟨s.take (s.length - 1), by rw [extT], HR.out, by rw [List.length_take]; omega, trivial⟩
            case measure => simp [strN]; omega
          · have q1 : (((c.toNat : Nat) : Int) == 32) = false := by simp; omega
            by_cases h9 : c.toNat = 9
            · have q2 : (((c.toNat : Nat) : Int) == 9) = true := by rw [h9]; rfl
              have HR : Hid (((s.take (s.length - 1)) = l ∧ ∀ b, l[0]? = some b → Wb.blank b = false) ∨ ((s.take (s.length - 1)).length < l.length ∧ ¬ trim l = l)) := HB.out (by simp [Wb.blank, h9])
              clear HB HN h32 h9
              go_wp2
              go_roundw
              case rel => exact ⟨s.take (s.length - 1), by rw [extT], HR.out, by rw [List.length_take]; omega, trivial⟩
              case measure => simp [strN]; omega
            · have q2 : (((c.toNat : Nat) : Int) == 9) = false := by simp; omega
              have HF : Hid (s = l ↔ trim l = l) := HN.out (by simp [Wb.blank, h32, h9])
              clear HB HN h32 h9
              go_wp2
              go_ret
              exact ⟨⟨s, rfl, HF.out⟩, rfl⟩
    · have q0 : (r.length : Int) > 0 := by omega
      have hlt : 0 < r.length := by omega
      obtain ⟨c, hde⟩ : ∃ c, r[0]'hlt = c := ⟨_, rfl⟩
      have hix : ∀ h : 0 < (⟨r.toArray⟩ : ByteArray).size, (⟨r.toArray⟩ : ByteArray)[0]'h = c := fun h => (at_text hlt h).trans hde
      have HB : Hid (Wb.blank c = true → (r.drop 1).length < l.length ∧ ¬ trim l = l) := fun e => trim_step1 HT.out hlt HR.out (by rw [hde]; exact e)
      have HN : Hid (Wb.blank c = false → (r = l ∧ ∀ b, l[0]? = some b → Wb.blank b = false) ∨ (r.length < l.length ∧ ¬ trim l = l)) := fun e => trim_out1 hlt HR.out (by rw [hde]; exact e)
      clear hde
      by_cases h32 : c.toNat = 32
      · have q1 : (((c.toNat : Nat) : Int) == 32) = true := by rw [h32]; rfl
        have HX : Hid ((r.drop 1).length < l.length ∧ ¬ trim l = l) := HB.out (by simp [Wb.blank, h32])
        clear HB HN h32 HR
        go_wp2
        go_roundw
        case rel => exact ⟨r.drop 1, by rw [← extD], .inr HX.out, by rw [List.length_drop]; omega, trivial⟩
        case measure => simp [strN]; omega
      · have q1 : (((c.toNat : Nat) : Int) == 32) = false := by simp; omega
        by_cases h9 : c.toNat = 9
        · have q2 : (((c.toNat : Nat) : Int) == 9) = true := by rw [h9]; rfl
          have HX : Hid ((r.drop 1).length < l.length ∧ ¬ trim l = l) := HB.out (by simp [Wb.blank, h9])
          clear HB HN h32 h9 HR
          go_wp2
          go_roundw
          case rel => exact ⟨r.drop 1, by rw [← extD], .inr HX.out, by rw [List.length_drop]; omega, trivial⟩
          case measure => simp [strN]; omega
        · have q2 : (((c.toNat : Nat) : Int) == 9) = false := by simp; omega
          have HO : Hid ((r = l ∧ ∀ b, l[0]? = some b → Wb.blank b = false) ∨ (r.length < l.length ∧ ¬ trim l = l)) := HN.out (by simp [Wb.blank, h32, h9])
          clear HB HN h32 h9 HR
          go_wp2
          go_loopw [0] (fun sv wz => ∃ r : List UInt8, sv = .string ⟨r.toArray⟩ ∧ ((r = l ∧ ∀ b, l[0]? = some b → Wb.blank b = false) ∨ (r.length < l.length ∧ ¬ trim l = l)) ∧ r.length ≤ 9223372036854775807 ∧ wz = wr) (fun sv _ => strN sv)
          case atStart => exact ⟨r, rfl, HO.out, hrl, rfl⟩
          case round =>
            clear HO hix hz hrl
            obtain ⟨s, rfl, hs, hrl, rfl⟩ := hrel
            have HS : Hid ((s = l ∧ ∀ b, l[0]? = some b → Wb.blank b = false) ∨ (s.length < l.length ∧ ¬ trim l = l)) := hs
            clear hs
            have hz : (⟨s.toArray⟩ : ByteArray).size = s.length := text_size s
            by_cases h0 : s.length = 0
            · have q0 : ¬ (s.length : Int) > 0 := by omega
              have HF : Hid (s = l ↔ trim l = l) := trim_end0 HT.out (List.eq_nil_of_length_eq_zero h0) HS.out
              clear h0
              go_wp2
              go_ret
              exact ⟨⟨s, rfl, HF.out⟩, rfl⟩
            · have q0 : (s.length : Int) > 0 := by omega
              have hlt : s.length - 1 < s.length := by omega
              have hw : IntKind.i64.wrap ((s.length : Int) - 1) = ((s.length - 1 : Nat) : Int) := by rw [IntKind.wrap_i64]; omega
              obtain ⟨c, hde⟩ : ∃ c, s[s.length - 1]'hlt = c := ⟨_, rfl⟩
              have hix : ∀ h : s.length - 1 < (⟨s.toArray⟩ : ByteArray).size, (⟨s.toArray⟩ : ByteArray)[s.length - 1]'h = c := fun h => (at_text hlt h).trans hde
              have HB : Hid (Wb.blank c = true → ((s.take (s.length - 1)) = l ∧ ∀ b, l[0]? = some b → Wb.blank b = false) ∨ ((s.take (s.length - 1)).length < l.length ∧ ¬ trim l = l)) := fun e => trim_step2 HT.out hlt HS.out (by rw [hde]; exact e)
              have HN : Hid (Wb.blank c = false → (s = l ↔ trim l = l)) := fun e => trim_end HT.out hlt HS.out (by rw [hde]; exact e)
              clear hde
              by_cases h32 : c.toNat = 32
              · have q1 : (((c.toNat : Nat) : Int) == 32) = true := by rw [h32]; rfl
                have HR : Hid (((s.take (s.length - 1)) = l ∧ ∀ b, l[0]? = some b → Wb.blank b = false) ∨ ((s.take (s.length - 1)).length < l.length ∧ ¬ trim l = l)) := HB.out (by simp [Wb.blank, h32])
                clear HB HN h32
                go_wp2
                go_roundw
                case rel => exact ⟨s.take (s.length - 1), by rw [extT], HR.out, by rw [List.length_take]; omega, trivial⟩
                case measure => simp [strN]; omega
              · have q1 : (((c.toNat : Nat) : Int) == 32) = false := by simp; omega
                by_cases h9 : c.toNat = 9
                · have q2 : (((c.toNat : Nat) : Int) == 9) = true := by rw [h9]; rfl
                  have HR : Hid (((s.take (s.length - 1)) = l ∧ ∀ b, l[0]? = some b → Wb.blank b = false) ∨ ((s.take (s.length - 1)).length < l.length ∧ ¬ trim l = l)) := HB.out (by simp [Wb.blank, h9])
                  clear HB HN h32 h9
                  go_wp2
                  go_roundw
                  case rel => exact ⟨s.take (s.length - 1), by rw [extT], HR.out, by rw [List.length_take]; omega, trivial⟩
                  case measure => simp [strN]; omega
                · have q2 : (((c.toNat : Nat) : Int) == 9) = false := by simp; omega
                  have HF : Hid (s = l ↔ trim l = l) := HN.out (by simp [Wb.blank, h32, h9])
                  clear HB HN h32 h9
                  go_wp2
                  go_ret
                  exact ⟨⟨s, rfl, HF.out⟩, rfl⟩
end Go.Proofs
