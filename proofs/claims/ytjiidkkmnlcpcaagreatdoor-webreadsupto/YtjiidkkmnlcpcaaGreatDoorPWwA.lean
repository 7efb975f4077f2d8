/-
  Laid together by packg.py of WwA.
-/
import Derived.Test.YtjiidkkmnlcpcaaGreatDoorPYi
import Derived.Test.YtjiidkkmnlcpcaaGreatDoorPaQ
namespace Go.Wb
theorem extT (r : List UInt8) (m : Nat) : (⟨r.toArray⟩ : ByteArray).extract 0 m = ⟨(r.take m).toArray⟩ := by
  apply ByteArray.ext
  simp [ByteArray.data_extract]
theorem extD (r : List UInt8) (m : Nat) : (⟨r.toArray⟩ : ByteArray).extract m r.length = ⟨(r.drop m).toArray⟩ := by
  apply ByteArray.ext
  simp [ByteArray.data_extract, List.take_of_length_le]
def strN : Value → Nat | .string b => b.size | _ => 0
section
variable {l r : List UInt8}
end
open Go.RowKit Go.Proofs in
theorem wrap_u8 (d : UInt8) : wrap64 ((d.toNat : Nat) : Int) = ((d.toNat : Nat) : Int) := by
  have := d.toNat_lt
  unfold wrap64
  omega
theorem mark_no {c : UInt8} {i : Nat} (hi : i < marks.length) (h : (marks.take i).contains c = false) (hp : ¬ marks[i] = c) : (marks.take (i + 1)).contains c = false := by
  rw [Bool.eq_false_iff]
  intro h2
  rw [List.contains_iff_mem, List.take_add_one, List.getElem?_eq_getElem hi, List.mem_append] at h2
  rcases h2 with h2 | h2
  · rw [List.contains_iff_mem.2 h2] at h; cases h
  · simp at h2; exact hp h2.symm
theorem mark_yes {c : UInt8} {i : Nat} (hi : i < marks.length) (hp : marks[i] = c) : marks.contains c = true := by
  rw [List.contains_iff_mem, ← hp]
  exact List.getElem_mem hi
end Go.Wb
namespace Go.Proofs
open Go.RowKit Go.Wi Go.Wb
set_option maxHeartbeats 1000000 in
set_option maxRecDepth 20000 in
theorem Tryz.rTok_any (c : UInt8) (w : World) : Calls Tryz.prog 91 #[.int .i64 c.toNat] w fun e w' => e = .returned (.bool (tok c)) ∧ w' = w := by
  have hd : tok c = (dig c || great c || (decide (97 ≤ c.toNat) && decide (c.toNat ≤ 122)) || marks.contains c) := rfl
  by_cases h : dig c = true ∨ great c = true ∨ (97 ≤ c.toNat ∧ c.toNat ≤ 122)
  · have hT : tok c = true := by
      rw [hd]
      rcases h with h | h | h
      · rw [h]; rfl
      · rw [h]; simp
      · rw [decide_eq_true h.1, decide_eq_true h.2]; simp
    rw [hT]
    have hs : (48 ≤ c.toNat ∧ c.toNat ≤ 57) ∨ (65 ≤ c.toNat ∧ c.toNat ≤ 90) ∨ (97 ≤ c.toNat ∧ c.toNat ≤ 122) := by simpa [dig, great] using h
    clear hd hT h
    generalize c.toNat = n at *
    rcases hs with ⟨a1, a2⟩ | ⟨a1, a2⟩ | ⟨a1, a2⟩
    · have q1 : (48 : Int) ≤ (n : Int) := by omega
      have q2 : (n : Int) ≤ 57 := by omega
      go_enter Tryz.func91, Tryz.ntmps91
      go_wp2
      go_ret
      exact ⟨rfl, rfl⟩
    · have q1 : (48 : Int) ≤ (n : Int) := by omega
      have q2 : ¬ (n : Int) ≤ 57 := by omega
      have q3 : (65 : Int) ≤ (n : Int) := by omega
      have q4 : (n : Int) ≤ 90 := by omega
      go_enter Tryz.func91, Tryz.ntmps91
      go_wp2
      go_ret
      exact ⟨rfl, rfl⟩
    · have q1 : (48 : Int) ≤ (n : Int) := by omega
      have q2 : ¬ (n : Int) ≤ 57 := by omega
      have q3 : (65 : Int) ≤ (n : Int) := by omega
      have q4 : ¬ (n : Int) ≤ 90 := by omega
      have q5 : (97 : Int) ≤ (n : Int) := by omega
      have q6 : (n : Int) ≤ 122 := by omega
      go_enter Tryz.func91, Tryz.ntmps91
      go_wp2
      go_ret
      exact ⟨rfl, rfl⟩
  · have hD : dig c = false := by rw [Bool.eq_false_iff]; exact fun e => h (.inl e)
    have hG : great c = false := by rw [Bool.eq_false_iff]; exact fun e => h (.inr (.inl e))
    have hS : (decide (97 ≤ c.toNat) && decide (c.toNat ≤ 122)) = false := by
      rw [Bool.eq_false_iff]
      intro e
      simp only [Bool.and_eq_true, decide_eq_true_eq] at e
      exact h (.inr (.inr e))
    have HT : Hid (tok c = marks.contains c) := (by show tok c = _; rw [hd, hD, hG, hS]; rfl)
    have hn : ¬ (48 ≤ c.toNat ∧ c.toNat ≤ 57) ∧ ¬ (65 ≤ c.toNat ∧ c.toNat ≤ 90) ∧ ¬ (97 ≤ c.toNat ∧ c.toNat ≤ 122) := by
      refine ⟨fun e => ?_, fun e => ?_, fun e => h (.inr (.inr e))⟩
      · exact h (.inl (by simp only [dig, decide_eq_true e.1, decide_eq_true e.2]; rfl))
      · exact h (.inr (.inl (by simp only [great, decide_eq_true e.1, decide_eq_true e.2]; rfl)))
    clear hd hD hG hS h
    have hlt : c.toNat < 256 := c.toNat_lt
    have hM : (⟨#[33, 35, 36, 37, 38, 39, 42, 43, 45, 46, 94, 95, 96, 124, 126]⟩ : ByteArray) = ⟨marks.toArray⟩ := rfl
    have hml : marks.length = 15 := rfl
    have HZ : Hid ((⟨#[33, 35, 36, 37, 38, 39, 42, 43, 45, 46, 94, 95, 96, 124, 126]⟩ : ByteArray) = ⟨marks.toArray⟩) := hM
    have HL : Hid (marks.length = 15) := hml
    have HI : Hid (∀ i (h : i < 15), marks[i]'(by rw [HL.out]; exact h) = c → tok c = true) := fun i h e => (by rw [HT.out]; exact mark_yes _ e)
    have HJ : Hid (∀ i (h : i < 15), (marks.take i).contains c = false → ¬ marks[i]'(by rw [HL.out]; exact h) = c → (marks.take (i + 1)).contains c = false) := fun i h e1 e2 => mark_no (by rw [HL.out]; exact h) e1 e2
    have HK : Hid ((marks.take 15).contains c = false → tok c = false) := fun e => (by rw [HT.out]; exact e)
    obtain ⟨hn1, hn2, hn3⟩ := hn
    clear hM hml
    by_cases q1 : (48 : Int) ≤ (c.toNat : Int) <;> by_cases q2 : (c.toNat : Int) ≤ 57 <;> by_cases q3 : (65 : Int) ≤ (c.toNat : Int) <;> by_cases q4 : (c.toNat : Int) ≤ 90 <;> by_cases q5 : (97 : Int) ≤ (c.toNat : Int) <;> by_cases q6 : (c.toNat : Int) ≤ 122 <;> first
      | (exfalso; omega)
      | (clear hn1 hn2 hn3
         go_enter Tryz.func91, Tryz.ntmps91
         go_wp2
         go_loopw [4] (fun iv wr => ∃ i : Nat, iv = .int .i64 i ∧ i ≤ 15 ∧ (marks.take i).contains c = false ∧ wr = w) (fun iv _ => 15 - (intOf iv).toNat)
         case atStart => exact ⟨0, rfl, Nat.zero_le _, rfl, rfl⟩
         case round =>
           obtain ⟨i, rfl, hi, ha, rfl⟩ := hrel
           have HA : Hid ((marks.take i).contains c = false) := ha
           clear ha
           by_cases hlt : i < 15
           · have q : (i : Int) < (15 : Int) := by omega
             have hil : i < marks.length := by rw [HL.out]; exact hlt
             obtain ⟨d, hde⟩ : ∃ d, marks[i]'hil = d := ⟨_, rfl⟩
             have hix : ∀ h : i < (⟨#[33, 35, 36, 37, 38, 39, 42, 43, 45, 46, 94, 95, 96, 124, 126]⟩ : ByteArray).size, (⟨#[33, 35, 36, 37, 38, 39, 42, 43, 45, 46, 94, 95, 96, 124, 126]⟩ : ByteArray)[i]'h = d := fun h => (at_text hil h).trans hde
             have HX1 : Hid (d = c → tok c = true) := fun e => HI.out i hlt (hde.trans e)
             have HX2 : Hid (¬ d = c → (marks.take (i + 1)).contains c = false) := fun e => HJ.out i hlt HA.out fun e2 => e (hde.symm.trans e2)
             clear HI HJ hde
             have hwd : wrap64 ((d.toNat : Nat) : Int) = ((d.toNat : Nat) : Int) := wrap_u8 d
             by_cases hd : d = c
             · have qd : (((d.toNat : Nat) : Int) == (c.toNat : Int)) = true := by rw [hd]; simp
               have HE := HX1.out hd
               have HEE : Hid (tok c = true) := HE
               clear HE hd HX1 HX2
               go_wp2
               go_ret
               exact ⟨by rw [HEE.out]; rfl, rfl⟩
             · have qd : (((d.toNat : Nat) : Int) == (c.toNat : Int)) = false := by
                 simp only [beq_eq_false_iff_ne, ne_eq]
                 exact fun e => hd (UInt8.toNat_inj.1 (by omega))
               have HE : Hid ((marks.take (i + 1)).contains c = false) := HX2.out hd
               clear hd HX1 HX2
               go_wp2
               go_roundw
               case rel => exact ⟨i + 1, by simp, by omega, HE.out, trivial⟩
               case measure => simp [intOf]; omega
           · have q : ¬ (i : Int) < (15 : Int) := by omega
             have HE : Hid (tok c = false) := HK.out (by rw [show (15 : Nat) = i by omega]; exact HA.out)
             go_wp2
             go_ret
             exact ⟨by rw [HE.out]; rfl, rfl⟩)
set_option maxHeartbeats 1000000 in
theorem Tryz.rVal_any (c : UInt8) (w : World) : Calls Tryz.prog 90 #[.int .i64 c.toNat] w fun e w' => e = .returned (.bool (txt c)) ∧ w' = w := by
  have hd : txt c = (c.toNat == 9 || (decide (32 ≤ c.toNat) && decide (c.toNat ≤ 126)) || decide (128 ≤ c.toNat)) := rfl
  rw [hd]
  generalize c.toNat = n at *
  clear hd
  by_cases h : n = 9
  · have q : ((n : Int) == 9) = true := by simp; omega
    go_enter Tryz.func90, Tryz.ntmps90
    go_wp2
    go_ret
    exact ⟨by rw [h]; rfl, rfl⟩
  · have q : ((n : Int) == 9) = false := by simp; omega
    have h1 : (n == 9) = false := by simpa using h
    rw [h1, Bool.false_or]
    by_cases h2 : 32 ≤ n
    · have q2 : (32 : Int) ≤ (n : Int) := by omega
      rw [decide_eq_true h2, Bool.true_and]
      by_cases h3 : n ≤ 126
      · have q3 : (n : Int) ≤ 126 := by omega
        rw [decide_eq_true h3, Bool.true_or]
        go_enter Tryz.func90, Tryz.ntmps90
        go_wp2
        go_ret
        exact ⟨rfl, rfl⟩
      · have q3 : ¬ (n : Int) ≤ 126 := by omega
        rw [decide_eq_false h3, Bool.false_or]
        go_enter Tryz.func90, Tryz.ntmps90
        go_wp2
        go_ret
        exact ⟨by simp; omega, rfl⟩
    · have q2 : ¬ (32 : Int) ≤ (n : Int) := by omega
      rw [decide_eq_false h2, Bool.false_and, Bool.false_or]
      go_enter Tryz.func90, Tryz.ntmps90
      go_wp2
      go_ret
      exact ⟨by simp; omega, rfl⟩
end Go.Proofs
