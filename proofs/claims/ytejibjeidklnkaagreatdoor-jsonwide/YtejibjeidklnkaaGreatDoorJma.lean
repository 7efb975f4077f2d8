/-
  WHOLE NUMBERS, READ: the plain reader at a number's own digits. Nothing of the program.
-/
import Derived.Test.YtejibjeidklnkaaGreatDoorJq
import Derived.Lib.ParseIntBCases
import Derived.Lib.ItoaMem
import Derived.Lib.ItoaLen
namespace Go.Jv
open Go.Lib
theorem parseM_dec (M : Nat) : ∀ (u : Nat) (r : List UInt8), u ≤ M → u ≤ 18446744073709551615 → parseUintM M 0 (decDigits u ++ r) = parseUintM M u r := by
  intro u
  induction u using Nat.strongRecOn with
  | _ u ih =>
    intro r hM hu
    by_cases h : u < 10
    · rw [decDigits_one h]
      have hc : (UInt8.ofNat (48 + u)).toNat = 48 + u := by simp [UInt8.toNat_ofNat']; omega
      show parseUintM M 0 (UInt8.ofNat (48 + u) :: r) = _
      rw [parseUintM, hc, if_pos (by omega), if_neg (by omega), if_neg (by omega)]
      congr 1
      omega
    · rw [decDigits, dif_neg h, List.append_assoc, ih (u / 10) (by omega) _ (by omega) (by omega)]
      have hc : (UInt8.ofNat (48 + u % 10)).toNat = 48 + u % 10 := by simp [UInt8.toNat_ofNat']; omega
      show parseUintM M (u / 10) (UInt8.ofNat (48 + u % 10) :: r) = _
      rw [parseUintM, hc, if_pos (by omega), if_neg (by omega), if_neg (by omega)]
      congr 1
      omega
/-- The digits: the first is none, but of 0. -/
theorem dec_shape : ∀ (u : Nat), (∀ c ∈ decDigits u, isDigit c = true) ∧ ∃ c r, decDigits u = c :: r ∧ (c.toNat = 48 → r = []) := by
  intro u
  induction u using Nat.strongRecOn with
  | _ u ih =>
    by_cases h : u < 10
    · have hc : (UInt8.ofNat (48 + u)).toNat = 48 + u := by simp [UInt8.toNat_ofNat']; omega
      rw [decDigits_one h]
      refine ⟨fun c hm => ?_, _, _, rfl, fun _ => rfl⟩
      simp only [List.mem_singleton] at hm
      subst hm
      simp [isDigit]; omega
    · have hc : (UInt8.ofNat (48 + u % 10)).toNat = 48 + u % 10 := by simp [UInt8.toNat_ofNat']; omega
      obtain ⟨h1, c, r, h2, h3⟩ := ih (u / 10) (by omega)
      rw [decDigits, dif_neg h]
      refine ⟨fun d hm => ?_, c, r ++ [UInt8.ofNat (48 + u % 10)], by rw [h2]; rfl, fun h48 => ?_⟩
      · rcases List.mem_append.1 hm with hm | hm
        · exact h1 d hm
        · simp only [List.mem_singleton] at hm
          subst hm
          simp [isDigit]; omega
      · exfalso
        have hr := h3 h48
        subst hr
        by_cases h10 : u / 10 < 10
        · rw [decDigits_one h10] at h2
          have hc' : (UInt8.ofNat (48 + u / 10)).toNat = 48 + u / 10 := by simp [UInt8.toNat_ofNat']; omega
          rw [List.cons.injEq] at h2
          rw [h2.1] at hc'
          omega
        · have := congrArg List.length h2
          rw [decDigits, dif_neg h10] at this
          obtain ⟨_, c', r', h2', _⟩ := ih (u / 10 / 10) (by omega)
          rw [h2'] at this
          simp at this
theorem dec_ne (u : Nat) : decDigits u ≠ [] := by obtain ⟨_, c, r, h, _⟩ := dec_shape u; rw [h]; exact List.cons_ne_nil _ _
theorem parseB_dec (u : Nat) (h : u ≤ 18446744073709551615) : parseUintB 64 (decDigits u) = .ok u := by
  unfold parseUintB
  rw [if_neg (dec_ne u)]
  have := parseM_dec (2 ^ 64 - 1) u [] (by omega) h
  rw [List.append_nil] at this
  rw [this, parseUintM]
theorem parse_itoa (n : Int) (h0 : -9223372036854775808 ≤ n) (h1 : n ≤ 9223372036854775807) : parseIntB 64 (itoa n) = .ok n := by
  unfold itoa
  split
  · rw [parseIntB_minus, parseB_dec _ (by omega)]
    have e : ¬ (2 ^ (64 - 1) < n.natAbs) := by omega
    have e2 : -(n.natAbs : Int) = n := by omega
    simp only [signedC, e, if_false, e2]
  · obtain ⟨hd, c, r, h2, _⟩ := dec_shape n.toNat
    have hc := hd c (by rw [h2]; simp)
    simp [isDigit] at hc
    rw [h2, parseIntB_plain 64 c r (by omega) (by omega), ← h2, parseB_dec _ (by omega)]
    have e : ¬ (2 ^ (64 - 1) ≤ n.toNat) := by omega
    have e2 : (n.toNat : Int) = n := by omega
    simp only [signlessC, e, if_false, e2]
theorem runTo_all (f : UInt8 → Bool) (t : ByteArray) : ∀ (n p : Nat), p + n ≤ t.size → (∀ j, p ≤ j → j < p + n → f (t.get! j) = true) → runTo f t n p = p + n := by
  intro n
  induction n with
  | zero => intro p _ _; rfl
  | succ n ih =>
    intro p h1 h2
    rw [runTo, if_pos ⟨by omega, h2 p (by omega) (by omega)⟩, ih (p + 1) (by omega) (fun j hj hk => h2 j (by omega) (by omega))]
    omega
theorem get_mem {t : ByteArray} {j : Nat} (h : j < t.size) : t.get! j ∈ t.data.toList := by
  have : t.get! j = t.data[j]'h := by simp [ByteArray.get!, getElem!_pos, h]
  rw [this]
  exact Array.getElem_mem_toList h
theorem takeAll : ∀ (l : List UInt8), (∀ c ∈ l, isDigit c = true) → l.takeWhile isDigit = l ∧ l.dropWhile isDigit = []
  | [], _ => ⟨rfl, rfl⟩
  | c :: r, h => by
    have hc := h c (by simp)
    obtain ⟨h1, h2⟩ := takeAll r fun d hd => h d (by simp [hd])
    simp [List.takeWhile, List.dropWhile, hc, h1, h2]
theorem numWord (l : List UInt8) (hd : ∀ c ∈ l, isDigit c = true) (c : UInt8) (r : List UInt8) (h : l = c :: r) (hz : c.toNat = 48 → r = []) (s : ByteArray) (hs : trim s = ⟨l.toArray⟩) : isNumber s = true := by
  have h1 : dg1 (trim s) = ⟨l.toArray⟩ := by rw [hs]; unfold dg1; simp only []; rw [(takeAll l hd).1]
  have h2 : dg2 (trim s) = emp := by rw [hs]; unfold dg2 emp; simp only []; rw [(takeAll l hd).2]
  have hA : ¬ (⟨l.toArray⟩ : ByteArray) = emp := by
    intro he
    have := congrArg (fun x : ByteArray => x.data.toList) he
    subst h
    simp [emp] at this
  have hB : ¬ (1 < (⟨l.toArray⟩ : ByteArray).size ∧ (⟨l.toArray⟩ : ByteArray).get! 0 = 48) := by
    rintro ⟨ha, hb⟩
    subst h
    have : c = 48 := hb
    subst this
    rw [hz rfl] at ha
    exact absurd ha (by decide)
  have hC : num1 emp = true := by kernel_rfl
  unfold isNumber
  rw [h1, h2, if_neg hA, if_neg hB, hC]
theorem trim_itoa (n : Int) : ∃ u : Nat, trim ⟨(itoa n).toArray⟩ = ⟨(decDigits u).toArray⟩ := by
  unfold itoa trim trimPrefix hasPrefix
  split
  · exact ⟨n.natAbs, by simp⟩
  · obtain ⟨hd, c, r, h2, _⟩ := dec_shape n.toNat
    have hc := hd c (by rw [h2]; simp)
    have : ¬ (45 : UInt8) = c := by rintro rfl; exact absurd hc (by decide)
    refine ⟨n.toNat, ?_⟩
    rw [h2]
    simp [List.isPrefixOf, this]
theorem isNumber_itoa (n : Int) : isNumber ⟨(itoa n).toArray⟩ = true := by
  obtain ⟨u, hu⟩ := trim_itoa n
  obtain ⟨hd, c, r, h2, h3⟩ := dec_shape u
  exact numWord _ hd c r h2 h3 _ hu
theorem itoa_ofNumber (n : Int) : ∀ c ∈ itoa n, c.toNat = 45 ∨ isDigit c = true := by
  intro c hc
  unfold itoa at hc
  split at hc
  · rcases List.mem_cons.1 hc with rfl | hc
    · exact .inl rfl
    · exact .inr ((dec_shape _).1 c hc)
  · exact .inr ((dec_shape _).1 c hc)
theorem itoa_ne (n : Int) : itoa n ≠ [] := by
  unfold itoa
  split
  · simp
  · exact dec_ne _
/-- J1, of a whole number's own digits. -/
theorem parse_num (n : Int) (h0 : -9223372036854775808 ≤ n) (h1 : n ≤ 9223372036854775807) :
    parse ⟨(itoa n).toArray⟩ = if -maxInt ≤ n ∧ n ≤ maxInt then .ok (.int n) else .bad 0 eNumber := by
  have hl := itoa_length_le n h0 h1
  have hn := itoa_ne n
  have hall := itoa_ofNumber n
  have hin := isNumber_itoa n
  have hpi := parse_itoa n h0 h1
  generalize hL : itoa n = l at *
  clear hL
  have hsz : (⟨l.toArray⟩ : ByteArray).size = l.length := by simp [ByteArray.size]
  have hpos : 0 < l.length := List.length_pos_iff.2 hn
  generalize hT : (⟨l.toArray⟩ : ByteArray) = t at *
  have hlt : t.data.toList = l := by rw [← hT]
  have hget : ∀ j, j < t.size → (t.get! j).toNat = 45 ∨ isDigit (t.get! j) = true := fun j hj => hall _ (by rw [← hlt]; exact get_mem hj)
  have hfirst := hget 0 (by omega)
  have hb0 : blanks t 0 = 0 := Go.Proofs.Jv.run_stop _ _ _ fun h => by
    rcases hfirst with h | h
    · simp [isBlank, h]
    · simp [isDigit] at h; simp [isBlank]; omega
  have hbe : blanks t t.size = t.size := Go.Proofs.Jv.run_stop _ _ _ fun h => absurd h (Nat.lt_irrefl _)
  have hrun : run isOfNumber t 0 = t.size := by
    unfold run
    rw [runTo_all isOfNumber t (t.size - 0) 0 (by omega) fun j _ hj => ?_]
    · omega
    · rcases hget j (by omega) with h | h
      · simp [isOfNumber, h]
      · simp [isDigit] at h; simp [isOfNumber]; omega
  have hsub : sub t 0 t.size = t := by unfold sub; simp
  have hletter : isLetter (t.get! 0) = false := by
    rcases hfirst with h | h
    · simp [isLetter, h]
    · simp [isDigit] at h; simp [isLetter]; omega
  have hdig : (isDigit (t.get! 0) || t.get! 0 == 45) = true := by
    rcases hfirst with h | h
    · have : t.get! 0 = 45 := UInt8.toNat_inj.1 h
      rw [this]; rfl
    · rw [h]; rfl
  have hnum : number t 0 = if -maxInt ≤ n ∧ n ≤ maxInt then .ok (.int n, t.size) else .bad 0 eNumber := by
    unfold number numOf
    simp only [hrun, hsub, hin, hlt, hpi, if_true]
    by_cases hm : -maxInt ≤ n ∧ n ≤ maxInt
    · simp only [if_pos hm]
    · simp only [if_neg hm]
  unfold parse wholeText value
  rw [if_neg (by omega), hb0]
  simp only [next, R.bind, if_pos (show 0 < t.size by omega), hletter, hdig, hnum, if_true, Bool.false_eq_true, if_false]
  by_cases hm : -maxInt ≤ n ∧ n ≤ maxInt
  · simp only [if_pos hm, hbe, Nat.lt_irrefl, if_false]
  · simp only [if_neg hm]
/-- The digits of a number, none of 0. -/
def dz (u : Nat) : List UInt8 := if u = 0 then [] else decDigits u
theorem dz_step (u : Nat) (h : u ≠ 0) : dz u = dz (u / 10) ++ [UInt8.ofNat (48 + u % 10)] := by
  unfold dz
  rw [if_neg h]
  by_cases h1 : u < 10
  · rw [decDigits_one h1, if_pos (by omega)]
    have : u % 10 = u := by omega
    rw [this]; rfl
  · rw [decDigits, dif_neg h1, if_neg (by omega)]
theorem dz_len (n : Int) (h0 : -9223372036854775808 ≤ n) (h1 : n ≤ 9223372036854775807) : (dz n.natAbs).length ≤ 21 := by
  have h := itoa_length_le n h0 h1
  unfold itoa at h
  unfold dz
  split
  · simp
  · split at h
    · simp at h; omega
    · have : n.natAbs = n.toNat := by omega
      rw [this]; exact h
theorem itoa_dz (n : Int) : itoa n = if n < 0 then 45 :: dz n.natAbs else if n = 0 then [48] else dz n.natAbs := by
  unfold itoa dz
  split
  · rw [if_neg (by omega)]
  · split
    · subst n; exact decDigits_one (by decide)
    · rw [if_neg (by omega)]
      have : n.natAbs = n.toNat := by omega
      rw [this]
end Go.Jv
