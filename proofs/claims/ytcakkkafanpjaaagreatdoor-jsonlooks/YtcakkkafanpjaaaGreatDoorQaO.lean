/-
  Laid together by packg.py of Jma Jrt Jga Jgb Jgc.
-/
import Derived.Test.YtcakkkafanpjaaaGreatDoorQaH
import Derived.Test.YtcakkkafanpjaaaGreatDoorQaL
import Derived.Test.YtcakkkafanpjaaaGreatDoorQaN
import Derived.Lib.ParseIntBCases
import Derived.Lib.ItoaMem
import Derived.Lib.ItoaLen
import Derived.Sort.Walk0
namespace Go.Jv
open Go.Lib
theorem parseM_dec (M : Nat) : ∀ (u : Nat) (r : List UInt8), u ≤ M → u ≤ 18446744073709551615 → parseUintM M 0 (decDigits u ++ r) = parseUintM M u r := by
  intro u
  induction u using Nat.strongRecOn with
  | _ u ih =>
    intro r hM hu
    by_cases h : u < 10
    · rw [decDigits_one h]
      have hc : (UInt8.ofNat (48 + u)).toNat = 48 + u := by simp [UInt8.toNat_ofNat']; omega
      show parseUintM M 0 (UInt8.ofNat (48 + u) :: r) = _
      rw [parseUintM, hc, if_pos (by omega), if_neg (by omega), if_neg (by omega)]
      congr 1
      omega
    · rw [decDigits, dif_neg h, List.append_assoc, ih (u / 10) (by omega) _ (by omega) (by omega)]
      have hc : (UInt8.ofNat (48 + u % 10)).toNat = 48 + u % 10 := by simp [UInt8.toNat_ofNat']; omega
      show parseUintM M (u / 10) (UInt8.ofNat (48 + u % 10) :: r) = _
      rw [parseUintM, hc, if_pos (by omega), if_neg (by omega), if_neg (by omega)]
      congr 1
      omega
/-- The digits: the first is none, but of 0. -/
theorem dec_shape : ∀ (u : Nat), (∀ c ∈ decDigits u, isDigit c = true) ∧ ∃ c r, decDigits u = c :: r ∧ (c.toNat = 48 → r = []) := by
  intro u
  induction u using Nat.strongRecOn with
  | _ u ih =>
    by_cases h : u < 10
    · have hc : (UInt8.ofNat (48 + u)).toNat = 48 + u := by simp [UInt8.toNat_ofNat']; omega
      rw [decDigits_one h]
      refine ⟨fun c hm => ?_, _, _, rfl, fun _ => rfl⟩
      simp only [List.mem_singleton] at hm
      subst hm
      simp [isDigit]; omega
    · have hc : (UInt8.ofNat (48 + u % 10)).toNat = 48 + u % 10 := by simp [UInt8.toNat_ofNat']; omega
      obtain ⟨h1, c, r, h2, h3⟩ := ih (u / 10) (by omega)
      rw [decDigits, dif_neg h]
      refine ⟨fun d hm => ?_, c, r ++ [UInt8.ofNat (48 + u % 10)], by rw [h2]; rfl, fun h48 => ?_⟩
      · rcases List.mem_append.1 hm with hm | hm
        · exact h1 d hm
        · simp only [List.mem_singleton] at hm
          subst hm
          simp [isDigit]; omega
      · exfalso
        have hr := h3 h48
        subst hr
        by_cases h10 : u / 10 < 10
        · rw [decDigits_one h10] at h2
          have hc' : (UInt8.ofNat (48 + u / 10)).toNat = 48 + u / 10 := by simp [UInt8.toNat_ofNat']; omega
          rw [List.cons.injEq] at h2
          rw [h2.1] at hc'
          omega
        · have := congrArg List.length h2
          rw [decDigits, dif_neg h10] at this
          obtain ⟨_, c', r', h2', _⟩ := ih (u / 10 / 10) (by omega)
          rw [h2'] at this
          simp at this
theorem dec_ne (u : Nat) : decDigits u ≠ [] := by obtain ⟨_, c, r, h, _⟩ := dec_shape u; rw [h]; exact List.cons_ne_nil _ _
theorem parseB_dec (u : Nat) (h : u ≤ 18446744073709551615) : parseUintB 64 (decDigits u) = .ok u := by
  unfold parseUintB
  rw [if_neg (dec_ne u)]
  have := parseM_dec (2 ^ 64 - 1) u [] (by omega) h
  rw [List.append_nil] at this
  rw [this, parseUintM]
theorem parse_itoa (n : Int) (h0 : -9223372036854775808 ≤ n) (h1 : n ≤ 9223372036854775807) : parseIntB 64 (itoa n) = .ok n := by
  unfold itoa
  split
  · rw [parseIntB_minus, parseB_dec _ (by omega)]
    have e : ¬ (2 ^ (64 - 1) < n.natAbs) := by omega
    have e2 : -(n.natAbs : Int) = n := by omega
    simp only [signedC, e, if_false, e2]
  · obtain ⟨hd, c, r, h2, _⟩ := dec_shape n.toNat
    have hc := hd c (by rw [h2]; simp)
    simp [isDigit] at hc
    rw [h2, parseIntB_plain 64 c r (by omega) (by omega), ← h2, parseB_dec _ (by omega)]
    have e : ¬ (2 ^ (64 - 1) ≤ n.toNat) := by omega
    have e2 : (n.toNat : Int) = n := by omega
    simp only [signlessC, e, if_false, e2]
theorem runTo_all (f : UInt8 → Bool) (t : ByteArray) : ∀ (n p : Nat), p + n ≤ t.size → (∀ j, p ≤ j → j < p + n → f (t.get! j) = true) → runTo f t n p = p + n := by
  intro n
  induction n with
  | zero => intro p _ _; rfl
  | succ n ih =>
    intro p h1 h2
    rw [runTo, if_pos ⟨by omega, h2 p (by omega) (by omega)⟩, ih (p + 1) (by omega) (fun j hj hk => h2 j (by omega) (by omega))]
    omega
theorem get_mem {t : ByteArray} {j : Nat} (h : j < t.size) : t.get! j ∈ t.data.toList := by
  have : t.get! j = t.data[j]'h := by simp [ByteArray.get!, getElem!_pos, h]
  rw [this]
  exact Array.getElem_mem_toList h
theorem takeAll : ∀ (l : List UInt8), (∀ c ∈ l, isDigit c = true) → l.takeWhile isDigit = l ∧ l.dropWhile isDigit = []
  | [], _ => ⟨rfl, rfl⟩
  | c :: r, h => by
    have hc := h c (by simp)
    obtain ⟨h1, h2⟩ := takeAll r fun d hd => h d (by simp [hd])
    simp [List.takeWhile, List.dropWhile, hc, h1, h2]
theorem numWord (l : List UInt8) (hd : ∀ c ∈ l, isDigit c = true) (c : UInt8) (r : List UInt8) (h : l = c :: r) (hz : c.toNat = 48 → r = []) (s : ByteArray) (hs : trim s = ⟨l.toArray⟩) : isNumber s = true := by
  have h1 : dg1 (trim s) = ⟨l.toArray⟩ := by rw [hs]; unfold dg1; simp only []; rw [(takeAll l hd).1]
  have h2 : dg2 (trim s) = emp := by rw [hs]; unfold dg2 emp; simp only []; rw [(takeAll l hd).2]
  have hA : ¬ (⟨l.toArray⟩ : ByteArray) = emp := by
    intro he
    have := congrArg (fun x : ByteArray => x.data.toList) he
    subst h
    simp [emp] at this
  have hB : ¬ (1 < (⟨l.toArray⟩ : ByteArray).size ∧ (⟨l.toArray⟩ : ByteArray).get! 0 = 48) := by
    rintro ⟨ha, hb⟩
    subst h
    have : c = 48 := hb
    subst this
    rw [hz rfl] at ha
    exact absurd ha (by decide)
  have hC : num1 emp = true := by kernel_rfl
  unfold isNumber
  rw [h1, h2, if_neg hA, if_neg hB, hC]
theorem trim_itoa (n : Int) : ∃ u : Nat, trim ⟨(itoa n).toArray⟩ = ⟨(decDigits u).toArray⟩ := by
  unfold itoa trim trimPrefix hasPrefix
  split
  · exact ⟨n.natAbs, by simp⟩
  · obtain ⟨hd, c, r, h2, _⟩ := dec_shape n.toNat
    have hc := hd c (by rw [h2]; simp)
    have : ¬ (45 : UInt8) = c := by rintro rfl; exact absurd hc (by decide)
    refine ⟨n.toNat, ?_⟩
    rw [h2]
    simp [List.isPrefixOf, this]
theorem isNumber_itoa (n : Int) : isNumber ⟨(itoa n).toArray⟩ = true := by
  obtain ⟨u, hu⟩ := trim_itoa n
  obtain ⟨hd, c, r, h2, h3⟩ := dec_shape u
  exact numWord _ hd c r h2 h3 _ hu
theorem itoa_ofNumber (n : Int) : ∀ c ∈ itoa n, c.toNat = 45 ∨ isDigit c = true := by
  intro c hc
  unfold itoa at hc
  split at hc
  · rcases List.mem_cons.1 hc with rfl | hc
    · exact .inl rfl
    · exact .inr ((dec_shape _).1 c hc)
  · exact .inr ((dec_shape _).1 c hc)
theorem itoa_ne (n : Int) : itoa n ≠ [] := by
  unfold itoa
  split
  · simp
  · exact dec_ne _
/-- J1, of a whole number's own digits. -/
theorem parse_num (n : Int) (h0 : -9223372036854775808 ≤ n) (h1 : n ≤ 9223372036854775807) :
    parse ⟨(itoa n).toArray⟩ = if -maxInt ≤ n ∧ n ≤ maxInt then .ok (.int n) else .bad 0 eNumber := by
  have hl := itoa_length_le n h0 h1
  have hn := itoa_ne n
  have hall := itoa_ofNumber n
  have hin := isNumber_itoa n
  have hpi := parse_itoa n h0 h1
  generalize hL : itoa n = l at *
  clear hL
  have hsz : (⟨l.toArray⟩ : ByteArray).size = l.length := by simp [ByteArray.size]
  have hpos : 0 < l.length := List.length_pos_iff.2 hn
  generalize hT : (⟨l.toArray⟩ : ByteArray) = t at *
  have hlt : t.data.toList = l := by rw [← hT]
  have hget : ∀ j, j < t.size → (t.get! j).toNat = 45 ∨ isDigit (t.get! j) = true := fun j hj => hall _ (by rw [← hlt]; exact get_mem hj)
  have hfirst := hget 0 (by omega)
  have hb0 : blanks t 0 = 0 := Go.Proofs.Jv.run_stop _ _ _ fun h => by
    rcases hfirst with h | h
    · simp [isBlank, h]
    · simp [isDigit] at h; simp [isBlank]; omega
  have hbe : blanks t t.size = t.size := Go.Proofs.Jv.run_stop _ _ _ fun h => absurd h (Nat.lt_irrefl _)
  have hrun : run isOfNumber t 0 = t.size := by
    unfold run
    rw [runTo_all isOfNumber t (t.size - 0) 0 (by omega) fun j _ hj => ?_]
    · omega
    · rcases hget j (by omega) with h | h
      · simp [isOfNumber, h]
      · simp [isDigit] at h; simp [isOfNumber]; omega
  have hsub : sub t 0 t.size = t := by unfold sub; simp
  have hletter : isLetter (t.get! 0) = false := by
    rcases hfirst with h | h
    · simp [isLetter, h]
    · simp [isDigit] at h; simp [isLetter]; omega
  have hdig : (isDigit (t.get! 0) || t.get! 0 == 45) = true := by
    rcases hfirst with h | h
    · have : t.get! 0 = 45 := UInt8.toNat_inj.1 h
      rw [this]; rfl
    · rw [h]; rfl
  have hnum : number t 0 = if -maxInt ≤ n ∧ n ≤ maxInt then .ok (.int n, t.size) else .bad 0 eNumber := by
    unfold number numOf
    simp only [hrun, hsub, hin, hlt, hpi, if_true]
    by_cases hm : -maxInt ≤ n ∧ n ≤ maxInt
    · simp only [if_pos hm]
    · simp only [if_neg hm]
  unfold parse wholeText value
  rw [if_neg (by omega), hb0]
  simp only [next, R.bind, if_pos (show 0 < t.size by omega), hletter, hdig, hnum, if_true, Bool.false_eq_true, if_false]
  by_cases hm : -maxInt ≤ n ∧ n ≤ maxInt
  · simp only [if_pos hm, hbe, Nat.lt_irrefl, if_false]
  · simp only [if_neg hm]
/-- The digits of a number, none of 0. -/
def dz (u : Nat) : List UInt8 := if u = 0 then [] else decDigits u
theorem dz_step (u : Nat) (h : u ≠ 0) : dz u = dz (u / 10) ++ [UInt8.ofNat (48 + u % 10)] := by
  unfold dz
  rw [if_neg h]
  by_cases h1 : u < 10
  · rw [decDigits_one h1, if_pos (by omega)]
    have : u % 10 = u := by omega
    rw [this]; rfl
  · rw [decDigits, dif_neg h1, if_neg (by omega)]
theorem dz_len (n : Int) (h0 : -9223372036854775808 ≤ n) (h1 : n ≤ 9223372036854775807) : (dz n.natAbs).length ≤ 21 := by
  have h := itoa_length_le n h0 h1
  unfold itoa at h
  unfold dz
  split
  · simp
  · split at h
    · simp at h; omega
    · have : n.natAbs = n.toNat := by omega
      rw [this]; exact h
theorem itoa_dz (n : Int) : itoa n = if n < 0 then 45 :: dz n.natAbs else if n = 0 then [48] else dz n.natAbs := by
  unfold itoa dz
  split
  · rw [if_neg (by omega)]
  · split
    · subst n; exact decDigits_one (by decide)
    · rw [if_neg (by omega)]
      have : n.natAbs = n.toNat := by omega
      rw [this]
end Go.Jv
namespace Go.Jv
open Go.Lib
theorem run_sx {f : UInt8 → Bool} {t : ByteArray} {p : Nat} {l r : List UInt8} (h : t.data.toList.drop p = l ++ r) (hl : ∀ c ∈ l, f c = true) (hr : ∀ c, r.head? = some c → f c = false) : run f t p = p + l.length := by
  have hz := sx_size h
  have hg : ∀ j, j < l.length → f (t.get! (p + j)) = true := fun j hj => by
    rw [Sg.get!_drop, h, List.getD_eq_getElem?_getD, List.getElem?_append_left hj, List.getElem?_eq_getElem hj]
    exact hl _ (List.getElem_mem hj)
  have step : ∀ k, k ≤ l.length → run f t p = run f t (p + k) := by
    intro k
    induction k with
    | zero => intro _; rfl
    | succ k ih =>
      intro hk
      rw [ih (by omega), Go.Proofs.Jv.run_step f t (p + k) (by rw [List.length_append] at hz; omega) (hg k (by omega))]
      rfl
  rw [step l.length (Nat.le_refl _)]
  refine Go.Proofs.Jv.run_stop f t _ (fun hlt => ?_)
  have hx := sx_app h
  cases hr' : r with
  | nil =>
    rw [hr'] at hx
    have := sx_size hx
    simp at this; omega
  | cons c r' =>
    rw [hr'] at hx
    obtain ⟨-, b, -⟩ := sx_next hx
    rw [b]
    exact hr c (by rw [hr']; rfl)
theorem sub_sx {t : ByteArray} {p : Nat} {l r : List UInt8} (h : t.data.toList.drop p = l ++ r) : sub t p (p + l.length) = ⟨l.toArray⟩ := by
  unfold sub
  apply ByteArray.ext
  rw [ByteArray.data_extract]
  apply Array.ext'
  rw [Array.toList_extract, List.extract_eq_take_drop, h, Nat.add_sub_cancel_left, List.take_left]
theorem blank_sx {t : ByteArray} {p : Nat} {c : UInt8} {r : List UInt8} (h : t.data.toList.drop p = c :: r) (hc : isBlank c = false) : blanks t p = p := by
  have := run_sx (f := isBlank) (t := t) (p := p) (l := []) (r := c :: r) h (by simp) (fun x hx => by simp at hx; rw [← hx]; exact hc)
  exact this
theorem blank_end {t : ByteArray} {p : Nat} (h : t.data.toList.drop p = []) : blanks t p = p := by
  have := run_sx (f := isBlank) (t := t) (p := p) (l := []) (r := []) h (by simp) (fun x hx => by simp at hx)
  exact this
/-- What may stand behind a value. -/
def Stp (r : List UInt8) : Prop := ∀ c, r.head? = some c → isLetter c = false ∧ isOfNumber c = false
theorem stp_cons {c : UInt8} {r : List UInt8} (h1 : isLetter c = false) (h2 : isOfNumber c = false) : Stp (c :: r) := fun x hx => by simp at hx; rw [← hx]; exact ⟨h1, h2⟩
theorem stp_nil : Stp [] := fun c h => by simp at h
theorem next_sx {t : ByteArray} {p : Nat} {c : UInt8} {l : List UInt8} (h : t.data.toList.drop p = c :: l) : next t p = .ok c := by
  obtain ⟨a, b, -⟩ := sx_next h
  unfold next; rw [if_pos a, b]
theorem take_sx {t : ByteArray} {p : Nat} {c : UInt8} {l : List UInt8} (h : t.data.toList.drop p = c :: l) : take t p c = .ok (p + 1) := by
  obtain ⟨a, b, -⟩ := sx_next h
  unfold take; rw [if_pos ⟨a, b⟩]
theorem word_sx {t : ByteArray} {p : Nat} {l r : List UInt8} {v : V} (h : t.data.toList.drop p = l ++ r) (hl : ∀ c ∈ l, isLetter c = true) (hs : Stp r) (hv : (l = [110, 117, 108, 108] ∧ v = .null) ∨ (l = [116, 114, 117, 101] ∧ v = .bool true) ∨ (l = [102, 97, 108, 115, 101] ∧ v = .bool false)) : word t p = .ok (v, p + l.length) := by
  have h1 := run_sx h hl (fun c hc => (hs c hc).1)
  have h2 := sub_sx h
  unfold word
  simp only [h1, h2]
  rcases hv with ⟨rfl, rfl⟩ | ⟨rfl, rfl⟩ | ⟨rfl, rfl⟩ <;> rfl
theorem ofNum {c : UInt8} (h : c.toNat = 45 ∨ isDigit c = true) : isOfNumber c = true := by
  unfold isOfNumber
  rcases h with h | h
  · exact decide_eq_true (by omega)
  · unfold isDigit at h
    have := of_decide_eq_true h
    exact decide_eq_true (.inl this)
theorem number_sx {t : ByteArray} {p : Nat} {r : List UInt8} {n : Int} (h : t.data.toList.drop p = itoa n ++ r) (hs : Stp r) (h0 : -maxInt ≤ n) (h1 : n ≤ maxInt) : number t p = .ok (.int n, p + (itoa n).length) := by
  have e1 := run_sx h (fun c hc => ofNum (itoa_ofNumber n c hc)) (fun c hc => (hs c hc).2)
  have e2 := sub_sx h
  have e3 : numOf ⟨(itoa n).toArray⟩ = some n := by
    unfold numOf maxInt at *
    rw [show (⟨(itoa n).toArray⟩ : ByteArray).data.toList = itoa n from rfl, parse_itoa n (by omega) (by omega)]
    simp only
    rw [if_pos ⟨h0, h1⟩]
  unfold number
  simp only [e1, e2, isNumber_itoa n, if_true, e3]
theorem bsGo_in (less : Nat → Bool) (k N : Nat) (h1 : ∀ t, t < k → less t = true) (h2 : ∀ t, k ≤ t → t < N → less t = false) : ∀ (f lo hi : Nat), hi - lo ≤ f → lo ≤ k → k ≤ hi → hi ≤ N → bsGo less f lo hi = k := by
  intro f
  induction f with
  | zero => intro lo hi a b c _; rw [bsGo]; omega
  | succ f ih =>
    intro lo hi a b c d
    rw [bsGo]
    by_cases hlt : lo < hi
    · rw [if_pos hlt]
      by_cases hm : (lo + hi) / 2 < k
      · rw [h1 _ hm, if_pos rfl]
        exact ih _ _ (by omega) (by omega) c d
      · rw [h2 _ (by omega) (by omega), if_neg (by simp)]
        exact ih _ _ (by omega) b (by omega) (by omega)
    · rw [if_neg hlt]; omega
theorem place_end {ks : List ByteArray} {k : ByteArray} (h : ∀ x ∈ ks, Op.bytesLess x.data.toList k.data.toList = true) : place ks k = ks.length := by
  unfold place
  refine bsGo_in _ ks.length ks.length (fun t ht => ?_) (fun t h1 h2 => by omega) _ _ _ (by omega) (by omega) (by omega) (Nat.le_refl _)
  rw [List.getD_eq_getElem?_getD, List.getElem?_eq_getElem ht]
  exact h _ (List.getElem_mem ht)
def Rising (ks : List ByteArray) : Prop := ks.Pairwise (fun a b => Op.bytesLess a.data.toList b.data.toList = true)
/-- A value that may be read, so deep. -/
def Gd : Nat → V → Prop
  | 0, .list _ => False
  | 0, .obj _ _ => False
  | _, .null => True
  | _, .bool _ => True
  | _, .int n => -maxInt ≤ n ∧ n ≤ maxInt
  | _, .text s => validD s.data.toList = true
  | d + 1, .list l => l.length ≤ 64 ∧ ∀ v ∈ l, Gd d v
  | d + 1, .obj ks l => ks.length = l.length ∧ l.length ≤ 64 ∧ Rising ks ∧ (∀ k ∈ ks, validD k.data.toList = true) ∧ ∀ v ∈ l, Gd d v
/-- How a printed value begins. -/
theorem itoa_head (n : Int) : ∃ c r, itoa n = c :: r ∧ (isDigit c || c == 45) = true := by
  cases h : itoa n with
  | nil => exact absurd h (itoa_ne n)
  | cons c r =>
    refine ⟨c, r, rfl, ?_⟩
    rcases itoa_ofNumber n c (by rw [h]; simp) with hc | hc
    · have : c = 45 := UInt8.toNat_inj.1 hc
      rw [this]; decide
    · rw [hc]; rfl
theorem digit_not {c : UInt8} (h : (isDigit c || c == 45) = true) : isLetter c = false ∧ isBlank c = false ∧ c ≠ 93 ∧ c ≠ 125 ∧ c ≠ 44 := by
  have hc : (48 ≤ c.toNat ∧ c.toNat ≤ 57) ∨ c.toNat = 45 := by
    rcases Bool.or_eq_true_iff.1 h with h | h
    · left; unfold isDigit at h; exact of_decide_eq_true h
    · right; rw [beq_iff_eq.1 h]; rfl
  have n : ∀ k : UInt8, ¬ ((48 ≤ k.toNat ∧ k.toNat ≤ 57) ∨ k.toNat = 45) → c ≠ k := fun k hk e => hk (e ▸ hc)
  exact ⟨decide_eq_false (by omega), decide_eq_false (by omega), n 93 (by decide), n 125 (by decide), n 44 (by decide)⟩
theorem pr_head (v : V) : ∃ c r, pr v = c :: r ∧ isBlank c = false ∧ c ≠ 93 ∧ c ≠ 125 ∧ c ≠ 44 := by
  cases v with
  | null => exact ⟨110, [117, 108, 108], by rw [pr], by decide, by decide, by decide, by decide⟩
  | bool b =>
    cases b with
    | true => exact ⟨116, [114, 117, 101], by rw [pr], by decide, by decide, by decide, by decide⟩
    | false => exact ⟨102, [97, 108, 115, 101], by rw [pr], by decide, by decide, by decide, by decide⟩
  | int n =>
    obtain ⟨c, r, h, hd⟩ := itoa_head n
    obtain ⟨-, h2, h3, h4, h5⟩ := digit_not hd
    exact ⟨c, r, by rw [pr, h], h2, h3, h4, h5⟩
  | text s => exact ⟨34, qBytes s.data.toList ++ [34], by rw [pr]; rfl, by decide, by decide, by decide, by decide⟩
  | list l => exact ⟨91, prL false l ++ [93], by rw [pr], by decide, by decide, by decide, by decide⟩
  | obj ks l => exact ⟨123, prO false ks l ++ [125], by rw [pr], by decide, by decide, by decide, by decide⟩
/-- 'more', where another one comes. -/
theorem more_sx {t : ByteArray} {q : Nat} {e c : UInt8} {n : Nat} {b : Bool} {r : List UInt8} (hb : b = decide (0 < n)) (h : t.data.toList.drop q = comma b ++ c :: r) (hc : isBlank c = false) (hce : c ≠ e) (he : e ≠ 44) (hn : n ≠ 64) : more t q e n = .ok (true, q + (comma b).length) := by
  by_cases h0 : 0 < n
  · have : b = true := by rw [hb]; exact decide_eq_true h0
    subst this
    have h' : t.data.toList.drop q = 44 :: c :: r := h
    obtain ⟨-, -, h2⟩ := sx_next h'
    unfold more
    rw [blank_sx h' (by decide), next_sx h']
    simp only [R.bind]
    rw [if_neg (Ne.symm he), if_neg (by omega), take_sx h']
    simp only
    rw [blank_sx h2 hc, next_sx h2]
    simp only
    rw [if_neg hn]
    rfl
  · have : b = false := by rw [hb]; exact decide_eq_false h0
    subst this
    have h' : t.data.toList.drop q = c :: r := h
    unfold more
    rw [blank_sx h' hc, next_sx h']
    simp only [R.bind]
    rw [if_neg hce, if_pos (by omega)]
    rfl
theorem more_end {t : ByteArray} {q : Nat} {e : UInt8} {n : Nat} {r : List UInt8} (h : t.data.toList.drop q = e :: r) (he : isBlank e = false) : more t q e n = .ok (false, q + 1) := by
  unfold more
  rw [blank_sx h he, next_sx h]
  simp only [R.bind, if_true]
theorem stp_tail (_b : Bool) (l : List V) (e : UInt8) (h1 : isLetter e = false) (h2 : isOfNumber e = false) (r : List UInt8) : Stp (prL true l ++ e :: r) := by
  cases l with
  | nil => exact stp_cons h1 h2
  | cons v l => rw [prL]; exact stp_cons (by decide) (by decide)
theorem stp_tailO (ks : List ByteArray) (l : List V) (h : ks.length = l.length) (r : List UInt8) : Stp (prO true ks l ++ 125 :: r) := by
  cases l with
  | nil => rw [prO]; exact stp_cons (by decide) (by decide)
  | cons v l =>
    cases ks with
    | nil => simp at h
    | cons k ks => rw [prO]; exact stp_cons (by decide) (by decide)
theorem list_sx {t : ByteArray} {val : Nat → R (V × Nat)} : ∀ (l had : List V) (f q : Nat) (r : List UInt8), (∀ v ∈ l, ∀ p r, t.data.toList.drop p = pr v ++ r → Stp r → val p = .ok (v, p + (pr v).length)) → had.length + l.length ≤ 64 → l.length < f →
    t.data.toList.drop q = prL (decide (0 < had.length)) l ++ 93 :: r → listFrom t val f q had = .ok (.list (had ++ l), q + (prL (decide (0 < had.length)) l).length + 1) := by
  intro l
  induction l with
  | nil =>
    intro had f q r _ _ hf h
    obtain ⟨f, rfl⟩ : ∃ g, f = g + 1 := ⟨f - 1, by omega⟩
    rw [prL] at h ⊢
    rw [listFrom, more_end (by simpa using h) (by decide)]
    simp [R.bind]
  | cons v l ih =>
    intro had f q r hv hl hf h
    obtain ⟨f, rfl⟩ : ∃ g, f = g + 1 := ⟨f - 1, by simp at hf; omega⟩
    rw [prL] at h ⊢
    obtain ⟨c, rr, hpr, hc1, hc2, hc3, hc4⟩ := pr_head v
    simp only [List.length_cons] at hl hf
    have hm := more_sx (t := t) (q := q) (e := 93) (c := c) (n := had.length) (b := decide (0 < had.length)) (r := rr ++ (prL true l ++ 93 :: r)) rfl (by rw [h, hpr]; simp) hc1 hc2 (by decide) (by omega)
    rw [listFrom, hm]
    simp only [R.bind]
    rw [if_neg (by simp)]
    have h2 : t.data.toList.drop (q + (comma (decide (0 < had.length))).length) = pr v ++ (prL true l ++ 93 :: r) := sx_app (by rw [h]; simp)
    rw [hv v (by simp) _ _ h2 (stp_tail true l 93 (by decide) (by decide) r)]
    simp only
    have h3 := sx_app h2
    have hd : decide (0 < (had ++ [v]).length) = true := decide_eq_true (by simp)
    rw [ih (had ++ [v]) f _ r (fun x hx => hv x (by simp [hx])) (by simp; omega) (by omega) (by rw [hd]; exact h3), hd]
    simp
    omega
theorem key_sx {t : ByteArray} {q : Nat} {k : ByteArray} {ks : List ByteArray} {c : UInt8} {r : List UInt8} (hv : validD k.data.toList = true) (hk : ∀ x ∈ ks, Op.bytesLess x.data.toList k.data.toList = true) (h : t.data.toList.drop q = qText k ++ 58 :: c :: r) (hc : isBlank c = false) : key t q ks = .ok (k, q + (qText k).length + 1) := by
  have h' : t.data.toList.drop q = 34 :: (qBytes k.data.toList ++ [34] ++ 58 :: c :: r) := by rw [h]; simp [qText]
  have h2 := sx_app h
  obtain ⟨-, -, h3⟩ := sx_next h2
  unfold key
  rw [next_sx h']
  simp only [R.bind]
  rw [if_neg (by simp), quoted_q hv h]
  simp only
  rw [place_end hk, if_neg (by simp), blank_sx h2 (by decide), take_sx h2]
  simp only
  rw [blank_sx h3 hc]
theorem insert_end {α : Type} (l : List α) (x : α) : insertAt l l.length x = l ++ [x] := by simp [insertAt]
theorem obj_sx {t : ByteArray} {val : Nat → R (V × Nat)} : ∀ (l : List V) (ks : List ByteArray) (had : List V) (hk : List ByteArray) (f q : Nat) (r : List UInt8), ks.length = l.length → hk.length = had.length → Rising (hk ++ ks) → (∀ k ∈ ks, validD k.data.toList = true) → (∀ v ∈ l, ∀ p r, t.data.toList.drop p = pr v ++ r → Stp r → val p = .ok (v, p + (pr v).length)) → had.length + l.length ≤ 64 → l.length < f →
    t.data.toList.drop q = prO (decide (0 < had.length)) ks l ++ 125 :: r → objFrom t val f q hk had = .ok (.obj (hk ++ ks) (had ++ l), q + (prO (decide (0 < had.length)) ks l).length + 1) := by
  intro l
  induction l with
  | nil =>
    intro ks had hk f q r hkl _ _ _ _ _ hf h
    obtain rfl := List.eq_nil_of_length_eq_zero hkl
    obtain ⟨f, rfl⟩ : ∃ g, f = g + 1 := ⟨f - 1, by omega⟩
    rw [prO] at h ⊢
    rw [objFrom, more_end (by simpa using h) (by decide)]
    simp [R.bind]
  | cons v l ih =>
    intro ks had hk f q r hkl hkh hri hva hv hl hf h
    cases ks with
    | nil => simp at hkl
    | cons k ks =>
      obtain ⟨f, rfl⟩ : ∃ g, f = g + 1 := ⟨f - 1, by simp at hf; omega⟩
      rw [prO] at h ⊢
      obtain ⟨c, rr, hpr, hc1, -, -, -⟩ := pr_head v
      simp only [List.length_cons] at hl hf hkl
      have hm := more_sx (t := t) (q := q) (e := 125) (c := 34) (n := had.length) (b := decide (0 < had.length)) (r := qBytes k.data.toList ++ [34] ++ [58] ++ pr v ++ prO true ks l ++ 125 :: r) rfl (by rw [h]; simp [qText]) (by decide) (by decide) (by decide) (by omega)
      rw [objFrom, hm]
      simp only [R.bind]
      rw [if_neg (by simp)]
      have h2 : t.data.toList.drop (q + (comma (decide (0 < had.length))).length) = qText k ++ 58 :: (pr v ++ (prO true ks l ++ 125 :: r)) := sx_app (by rw [h]; simp)
      have hlt : ∀ x ∈ hk, Op.bytesLess x.data.toList k.data.toList = true := fun x hx => (List.pairwise_append.1 hri).2.2 x hx k (by simp)
      rw [key_sx (c := c) (r := rr ++ (prO true ks l ++ 125 :: r)) (hva k (by simp)) hlt (by rw [h2, hpr]; simp) hc1]
      simp only
      have h3 : t.data.toList.drop (q + (comma (decide (0 < had.length))).length + (qText k).length + 1) = pr v ++ (prO true ks l ++ 125 :: r) := by
        have := sx_app h2
        obtain ⟨-, -, h⟩ := sx_next this
        exact h
      rw [hv v (by simp) _ _ h3 (stp_tailO ks l (by omega) r)]
      simp only
      have h4 := sx_app h3
      have hd : decide (0 < (had ++ [v]).length) = true := decide_eq_true (by simp)
      rw [place_end hlt, insert_end, hkh, insert_end]
      rw [ih ks (had ++ [v]) (hk ++ [k]) f _ r (by omega) (by simp [hkh]) (by simpa using hri) (fun x hx => hva x (by simp [hx])) (fun x hx => hv x (by simp [hx])) (by simp; omega) (by omega) (by rw [hd]; exact h4), hd]
      simp
      omega
def Sc : V → Prop
  | .null => True
  | .bool _ => True
  | .int n => -maxInt ≤ n ∧ n ≤ maxInt
  | .text s => validD s.data.toList = true
  | .list _ => False
  | .obj _ _ => False
theorem value_scalar {t : ByteArray} {p : Nat} {r : List UInt8} {v : V} (d : Nat) (hv : Sc v) (h : t.data.toList.drop p = pr v ++ r) (hs : Stp r) : value t d p = .ok (v, p + (pr v).length) := by
  cases v with
  | null =>
    rw [pr] at h ⊢
    have h' : t.data.toList.drop p = 110 :: ([117, 108, 108] ++ r) := h
    have hw := word_sx (v := .null) h (by decide) hs (.inl ⟨rfl, rfl⟩)
    cases d <;> (rw [value, next_sx h']; simp only [R.bind]; rw [if_pos (by decide), hw])
  | bool b =>
    cases b with
    | true =>
      rw [pr] at h ⊢
      have h' : t.data.toList.drop p = 116 :: ([114, 117, 101] ++ r) := h
      have hw := word_sx (v := .bool true) h (by decide) hs (.inr (.inl ⟨rfl, rfl⟩))
      cases d <;> (rw [value, next_sx h']; simp only [R.bind]; rw [if_pos (by decide), hw])
    | false =>
      rw [pr] at h ⊢
      have h' : t.data.toList.drop p = 102 :: ([97, 108, 115, 101] ++ r) := h
      have hw := word_sx (v := .bool false) h (by decide) hs (.inr (.inr ⟨rfl, rfl⟩))
      cases d <;> (rw [value, next_sx h']; simp only [R.bind]; rw [if_pos (by decide), hw])
  | int n =>
    rw [pr] at h ⊢
    obtain ⟨c, m, hm, hd⟩ := itoa_head n
    have h' : t.data.toList.drop p = c :: (m ++ r) := by rw [h, hm]; rfl
    have hw := number_sx h hs hv.1 hv.2
    cases d <;> (rw [value, next_sx h']; simp only [R.bind]; rw [if_neg (by rw [(digit_not hd).1]; simp), if_pos hd, hw])
  | text s =>
    rw [pr] at h ⊢
    have h' : t.data.toList.drop p = 34 :: (qBytes s.data.toList ++ [34] ++ r) := by rw [h]; simp [qText]
    cases d <;> (rw [value, next_sx h']; simp only [R.bind]; rw [if_neg (by decide), if_neg (by decide), if_pos trivial, quoted_q hv h])
  | list l => exact hv.elim
  | obj ks l => exact hv.elim
/-- What is printed is read as itself. -/
theorem value_sx (t : ByteArray) : ∀ (d : Nat) (v : V), Gd d v → ∀ p r, t.data.toList.drop p = pr v ++ r → Stp r → value t d p = .ok (v, p + (pr v).length) := by
  intro d
  induction d with
  | zero =>
    intro v hg p r h hs
    refine value_scalar 0 ?_ h hs
    cases v with
    | null => exact trivial
    | bool b => exact trivial
    | int n => exact hg
    | text s => exact hg
    | list l => exact hg.elim
    | obj ks l => exact hg.elim
  | succ d ih =>
    intro v hg p r h hs
    cases v with
    | null => exact value_scalar _ trivial h hs
    | bool b => exact value_scalar _ trivial h hs
    | int n => exact value_scalar (v := .int n) _ hg h hs
    | text s => exact value_scalar (v := .text s) _ hg h hs
    | list l =>
      obtain ⟨h1, h2⟩ := hg
      rw [pr] at h ⊢
      have h' : t.data.toList.drop p = 91 :: (prL false l ++ 93 :: r) := by rw [h]; simp
      obtain ⟨-, -, h3⟩ := sx_next h'
      rw [value, next_sx h']
      simp only [R.bind]
      rw [if_neg (by decide), if_neg (by decide), if_neg (by decide), if_pos trivial]
      rw [list_sx l [] 66 (p + 1) r (fun v hv p r a b => ih v (h2 v hv) p r a b) (by simpa using h1) (by omega) (by simpa using h3)]
      simp
      omega
    | obj ks l =>
      obtain ⟨h0, h1, h2, h3, h4⟩ := hg
      rw [pr] at h ⊢
      have h' : t.data.toList.drop p = 123 :: (prO false ks l ++ 125 :: r) := by rw [h]; simp
      obtain ⟨-, -, h5⟩ := sx_next h'
      rw [value, next_sx h']
      simp only [R.bind]
      rw [if_neg (by decide), if_neg (by decide), if_neg (by decide), if_neg (by decide), if_pos trivial]
      rw [obj_sx l ks [] [] 66 (p + 1) r h0 rfl (by simpa using h2) h3 (fun v hv p r a b => ih v (h4 v hv) p r a b) (by simpa using h1) (by omega) (by simpa using h5)]
      simp
      omega
theorem parse_pr {v : V} (hg : Gd 10 v) (hl : (pr v).length ≤ 4096) : parse ⟨(pr v).toArray⟩ = .ok v := by
  have hz : (⟨(pr v).toArray⟩ : ByteArray).size = (pr v).length := by simp [ByteArray.size]
  have h : (⟨(pr v).toArray⟩ : ByteArray).data.toList.drop 0 = pr v ++ [] := by simp
  have hv := value_sx ⟨(pr v).toArray⟩ 10 v hg 0 [] h stp_nil
  obtain ⟨c, r, hpr, hb, -⟩ := pr_head v
  have hbl : blanks ⟨(pr v).toArray⟩ 0 = 0 := blank_sx (c := c) (r := r) (by rw [h, hpr]; simp) hb
  have he := sx_app h
  unfold parse wholeText
  rw [if_neg (by rw [hz]; omega), hbl, hv]
  simp only [R.bind]
  rw [blank_end he, hz, if_neg (by omega)]
end Go.Jv
namespace Go.Jv
open Go.Lib
theorem validD_add : ∀ (k : Nat) (l r : List UInt8), l.length ≤ k → validD l = true → validD r = true → validD (l ++ r) = true := by
  intro k
  induction k with
  | zero =>
    intro l r hl _ hr
    obtain rfl := List.eq_nil_of_length_eq_zero (Nat.le_zero.1 hl)
    exact hr
  | succ k ih =>
    intro l r hl hv hr
    by_cases hne : l = []
    · subst hne; exact hr
    · rw [validD_step _ hne] at hv
      split at hv
      · cases hv
      · rename_i hw
        have hpos := decL_pos l
        have hle := decodeL_le l hne
        have hsplit : l ++ r = l.take (decodeL l).2 ++ (l.drop (decodeL l).2 ++ r) := by rw [← List.append_assoc, List.take_append_drop]
        have hD : decodeL (l ++ r) = decodeL l := by rw [hsplit, decL_take hne hw]
        rw [validD_step _ (by simp [hne]), hD, if_neg hw, List.drop_append_of_le_length hle]
        exact ih _ _ (by simp; omega) hv hr
/-- How a sign is written: sound, all its bytes great but where it is one of the first 128. -/
theorem enc_any (r : Nat) : validD (encodeRune (r : Int)) = true ∧ (encodeRune (r : Int)).length ≤ 4 ∧ (r < 128 → (encodeRune (r : Int)).length = 1) ∧ (128 ≤ r → ∀ c ∈ encodeRune (r : Int), 128 ≤ c.toNat) := by
  have hU : ∀ x : Nat, x < 256 → (Nat.toUInt8 x).toNat = x := fun x hx => by simp [Nat.toUInt8, UInt8.toNat_ofNat']; omega
  by_cases h1 : r < 128
  · have e : encodeRune (r : Int) = [Nat.toUInt8 r] := by
      unfold encodeRune encodeRuneZ
      rw [if_pos (by omega)]
      simp
    rw [e]
    refine ⟨?_, by simp, fun _ => rfl, fun h => by omega⟩
    rw [validD_cons _ _ (by rw [hU r (by omega)]; exact h1)]
    rfl
  · by_cases h2 : r ≤ 2047
    · have e : encodeRune (r : Int) = [Nat.toUInt8 (192 + r / 64), Nat.toUInt8 (128 + r % 64)] := by
        unfold encodeRune encodeRuneZ
        rw [if_neg (by omega), if_pos (by omega)]
        simp only [List.map_cons, List.map_nil]
        congr 2
      rw [e]
      have a0 := hU (192 + r / 64) (by omega)
      have a1 := hU (128 + r % 64) (by omega)
      refine ⟨?_, by simp, fun h => by omega, fun _ c hc => ?_⟩
      · have hD : decodeL [Nat.toUInt8 (192 + r / 64), Nat.toUInt8 (128 + r % 64)] = (r, 2) := by
          rw [decodeL_N]
          simp only [List.getD_cons_zero, List.getD_cons_succ, List.length_cons, List.length_nil, a0, a1]
          unfold decodeN
          rw [if_neg (by omega), if_pos (by omega), if_pos (by omega)]
          congr 1
          omega
        rw [validD_step _ (by simp), hD, if_neg (by simp)]
        rfl
      · simp only [List.mem_cons, List.not_mem_nil, or_false] at hc
        rcases hc with rfl | rfl
        · omega
        · omega
    · by_cases h3 : (2048 ≤ r ∧ r < 55296) ∨ (57343 < r ∧ r ≤ 65535)
      · have e : encodeRune (r : Int) = [Nat.toUInt8 (224 + r / 4096), Nat.toUInt8 (128 + r / 64 % 64), Nat.toUInt8 (128 + r % 64)] := by
          unfold encodeRune encodeRuneZ
          rw [if_neg (by omega), if_neg (by omega), if_pos (by omega)]
          simp only [List.map_cons, List.map_nil]
          congr 2
        rw [e]
        have a0 := hU (224 + r / 4096) (by omega)
        have a1 := hU (128 + r / 64 % 64) (by omega)
        have a2 := hU (128 + r % 64) (by omega)
        refine ⟨?_, by simp, fun h => by omega, fun _ c hc => ?_⟩
        · have hD : decodeL [Nat.toUInt8 (224 + r / 4096), Nat.toUInt8 (128 + r / 64 % 64), Nat.toUInt8 (128 + r % 64)] = (r, 3) := by
            rw [decodeL_N]
            simp only [List.getD_cons_zero, List.getD_cons_succ, List.length_cons, List.length_nil, a0, a1, a2]
            unfold decodeN
            rw [if_neg (by omega), if_neg (by omega), if_pos (by omega), if_pos (by omega)]
            congr 1
            omega
          rw [validD_step _ (by simp), hD, if_neg (by simp)]
          rfl
        · simp only [List.mem_cons, List.not_mem_nil, or_false] at hc
          rcases hc with rfl | rfl | rfl <;> omega
      · by_cases h4 : 65536 ≤ r ∧ r ≤ 1114111
        · have e : encodeRune (r : Int) = [Nat.toUInt8 (240 + r / 262144), Nat.toUInt8 (128 + r / 4096 % 64), Nat.toUInt8 (128 + r / 64 % 64), Nat.toUInt8 (128 + r % 64)] := by
            unfold encodeRune encodeRuneZ
            rw [if_neg (by omega), if_neg (by omega), if_neg (by omega), if_pos (by omega)]
            simp only [List.map_cons, List.map_nil]
            congr 2
          rw [e]
          have a0 := hU (240 + r / 262144) (by omega)
          have a1 := hU (128 + r / 4096 % 64) (by omega)
          have a2 := hU (128 + r / 64 % 64) (by omega)
          have a3 := hU (128 + r % 64) (by omega)
          refine ⟨?_, by simp, fun h => by omega, fun _ c hc => ?_⟩
          · have hD : decodeL [Nat.toUInt8 (240 + r / 262144), Nat.toUInt8 (128 + r / 4096 % 64), Nat.toUInt8 (128 + r / 64 % 64), Nat.toUInt8 (128 + r % 64)] = (r, 4) := by
              rw [decodeL_N]
              simp only [List.getD_cons_zero, List.getD_cons_succ, List.length_cons, List.length_nil, a0, a1, a2, a3]
              unfold decodeN
              rw [if_neg (by omega), if_neg (by omega), if_neg (by omega), if_pos (by omega), if_pos (by omega)]
              congr 1
              omega
            rw [validD_step _ (by simp), hD, if_neg (by simp)]
            rfl
          · simp only [List.mem_cons, List.not_mem_nil, or_false] at hc
            rcases hc with rfl | rfl | rfl | rfl <;> omega
        · have e : encodeRune (r : Int) = [239, 191, 189] := by
            unfold encodeRune encodeRuneZ
            rw [if_neg (by omega), if_neg (by omega), if_neg (by omega), if_neg (by omega)]
            rfl
          rw [e]
          exact ⟨by decide, by simp, fun h => by omega, fun _ c hc => by simp only [List.mem_cons, List.not_mem_nil, or_false] at hc; rcases hc with rfl | rfl | rfl <;> decide⟩
theorem enc_q6 (r : Nat) : (qBytes (encodeRune (r : Int))).length ≤ 6 := by
  obtain ⟨-, h1, h2, h3⟩ := enc_any r
  by_cases h : r < 128
  · have h4 := h2 h
    match hl : encodeRune (r : Int), h4 with
    | [c], _ =>
      have := (qByte_len c).2
      simpa [qBytes] using this
  · rw [qBytes_high _ (h3 (by omega))]
    omega
/-- Places. -/
theorem runTo_le (f : UInt8 → Bool) (t : ByteArray) : ∀ (n p : Nat), p ≤ runTo f t n p ∧ (p ≤ t.size → runTo f t n p ≤ t.size)
  | 0, p => ⟨Nat.le_refl _, fun h => h⟩
  | n + 1, p => by
    rw [runTo]
    split
    · rename_i h
      have := runTo_le f t n (p + 1)
      exact ⟨by omega, fun _ => this.2 h.1⟩
    · exact ⟨Nat.le_refl _, fun h => h⟩
theorem run_le (f : UInt8 → Bool) (t : ByteArray) (p : Nat) : p ≤ run f t p ∧ (p ≤ t.size → run f t p ≤ t.size) := runTo_le f t _ p
theorem next_ok {t : ByteArray} {p : Nat} {c : UInt8} (h : next t p = .ok c) : p < t.size ∧ t.get! p = c := by
  unfold next at h
  split at h
  · rename_i hp; injection h with h; exact ⟨hp, h⟩
  · cases h
theorem take_ok {t : ByteArray} {p q : Nat} {c : UInt8} (h : take t p c = .ok q) : q = p + 1 ∧ p < t.size := by
  unfold take at h
  split at h
  · rename_i hp; injection h with h; exact ⟨h.symm, hp.1⟩
  · cases h
theorem sub_size {t : ByteArray} {p q : Nat} (h1 : p ≤ q) (h2 : q ≤ t.size) : (sub t p q).data.toList.length = q - p := by
  rw [← Lib.size_eq]
  unfold sub
  rw [ByteArray.size_extract]
  omega
theorem word_gd {t : ByteArray} {p q : Nat} {v : V} (hp : p ≤ t.size) (h : word t p = .ok (v, q)) : (∀ d, Gd d v) ∧ p + (pr v).length ≤ q ∧ q ≤ t.size := by
  obtain ⟨r1, r2⟩ := run_le isLetter t p
  have hs := sub_size r1 (r2 hp)
  unfold word at h
  simp only at h
  split at h
  · rename_i e
    rw [e] at hs
    injection h with h
    injection h with h h'
    subst h h'
    refine ⟨fun d => by cases d <;> trivial, ?_, r2 hp⟩
    simp [pr] at hs ⊢
    omega
  · split at h
    · rename_i e
      rw [e] at hs
      injection h with h
      injection h with h h'
      subst h h'
      refine ⟨fun d => by cases d <;> trivial, ?_, r2 hp⟩
      simp [pr] at hs ⊢
      omega
    · split at h
      · rename_i e
        rw [e] at hs
        injection h with h
        injection h with h h'
        subst h h'
        refine ⟨fun d => by cases d <;> trivial, ?_, r2 hp⟩
        simp [pr] at hs ⊢
        omega
      · cases h
theorem nDigits_le {u k : Nat} (hk : 1 ≤ k) (h : u < 10 ^ k) : nDigits u ≤ k := by
  induction k generalizing u with
  | zero => omega
  | succ k ih =>
    by_cases h1 : u < 10
    · rw [nDigits_small h1]; omega
    · rw [nDigits_big h1]
      rw [Nat.pow_succ] at h
      by_cases hk0 : k = 0
      · subst hk0; simp at h; omega
      · have := ih (u := u / 10) (by omega) (by omega)
        omega
theorem parseM_lt (M : Nat) : ∀ (l : List UInt8) (acc u k : Nat), parseUintM M acc l = .ok u → acc < 10 ^ k → u < 10 ^ (k + l.length)
  | [], acc, u, k, h, ha => by
    rw [parseUintM] at h
    injection h with h
    subst h
    simpa using ha
  | c :: r, acc, u, k, h, ha => by
    rw [parseUintM] at h
    split at h
    · rename_i hc
      split at h
      · cases h
      · split at h
        · cases h
        · have := parseM_lt M r _ u (k + 1) h (by rw [Nat.pow_succ]; omega)
          rw [List.length_cons]
          rw [show k + (r.length + 1) = k + 1 + r.length by omega]
          exact this
    · cases h
theorem parseU_len {l : List UInt8} {u : Nat} (h : parseUintB 64 l = .ok u) : nDigits u ≤ l.length := by
  unfold parseUintB at h
  split at h
  · cases h
  · rename_i hne
    have := parseM_lt _ l 0 u 0 h (by simp)
    rw [Nat.zero_add] at this
    exact nDigits_le (List.length_pos_iff.2 hne) this
theorem itoa_short {l : List UInt8} {n : Int} (h : parseIntB 64 l = .ok n) : (itoa n).length ≤ l.length := by
  unfold parseIntB at h
  split at h
  · cases h
  · rename_i c r
    simp only at h
    split at h
    · cases h
    · cases h
    · rename_i u hu
      split at h
      · cases h
      · split at h
        · cases h
        · injection h with h
          have hl := parseU_len hu
          by_cases hneg : c.toNat = 45
          · rw [if_pos hneg] at h
            rw [if_pos (.inr hneg)] at hl
            subst h
            unfold itoa
            split
            · rename_i hn
              rw [List.length_cons, decDigits_length, List.length_cons]
              have : (-(u : Int)).natAbs = u := by omega
              rw [this]
              omega
            · rename_i hn
              rw [decDigits_length, List.length_cons]
              have : (-(u : Int)).toNat = 0 := by omega
              rw [this, nDigits_small (by omega)]
              omega
          · rw [if_neg hneg] at h
            subst h
            unfold itoa
            rw [if_neg (by omega), decDigits_length]
            have : ((u : Int)).toNat = u := by omega
            rw [this]
            refine Nat.le_trans hl ?_
            split
            · simp
            · exact Nat.le_refl _
theorem number_gd {t : ByteArray} {p q : Nat} {v : V} (hp : p ≤ t.size) (h : number t p = .ok (v, q)) : (∀ d, Gd d v) ∧ p + (pr v).length ≤ q ∧ q ≤ t.size := by
  obtain ⟨r1, r2⟩ := run_le isOfNumber t p
  have hs := sub_size r1 (r2 hp)
  unfold number at h
  simp only at h
  split at h
  · split at h
    · rename_i n hn
      injection h with h
      injection h with h h'
      subst h h'
      unfold numOf at hn
      split at hn
      · rename_i m hm
        split at hn
        · rename_i hb
          injection hn with hn
          subst hn
          have := itoa_short hm
          refine ⟨fun d => by cases d <;> exact hb, ?_, r2 hp⟩
          rw [show pr (.int m) = itoa m by rw [pr]]
          omega
        · cases hn
      · cases hn
    · cases h
  · cases h
end Go.Jv
namespace Go.Jv
open Go.Lib
theorem unitFrom_in (t : ByteArray) (fr : Nat) : ∀ (k p n m : Nat), unitFrom t fr k p n = .ok m → p ≤ t.size → p + k ≤ t.size
  | 0, p, n, m, _, hp => by omega
  | k + 1, p, n, m, h, hp => by
    rw [unitFrom] at h
    split at h
    · rename_i hlt
      split at h
      · split at h
        · have := unitFrom_in t fr k (p + 1) n m h hlt; omega
        · cases h
      · split at h
        · split at h
          · have := unitFrom_in t fr k (p + 1) n m h hlt; omega
          · cases h
        · split at h
          · have := unitFrom_in t fr k (p + 1) _ m h hlt; omega
          · cases h
    · cases h
theorem bind_ok {α β : Type} {x : R α} {f : α → R β} {b : β} (h : x.bind f = .ok b) : ∃ a, x = .ok a ∧ f a = .ok b := by
  cases x with
  | bad p e => cases h
  | ok a => exact ⟨a, rfl, h⟩
theorem esc_short {c x : UInt8} (h : escOf c = some x) : (qBytes (encodeRune ((x.toNat : Nat) : Int))).length ≤ 2 := by
  have hx : x = 34 ∨ x = 92 ∨ x = 47 ∨ x = 8 ∨ x = 12 ∨ x = 10 ∨ x = 13 ∨ x = 9 := by
    unfold escOf at h
    repeat' split at h
    all_goals (first | (cases h; done) | (cases h; decide))
  rcases hx with rfl | rfl | rfl | rfl | rfl | rfl | rfl | rfl <;> (rw [enc_ascii _ (by decide)]; decide)
theorem escape_in {t : ByteArray} {p : Nat} {x : Nat × Nat} (h : escape t p = .ok x) (_hp : p < t.size) : (qBytes (encodeRune (x.1 : Int))).length + p ≤ x.2 ∧ x.2 ≤ t.size := by
  unfold escape at h
  obtain ⟨c, h1, h⟩ := bind_ok h
  obtain ⟨n1, -⟩ := next_ok h1
  split at h
  · rename_i y hy
    injection h with h
    subst h
    have := esc_short hy
    exact ⟨by simp only; omega, by simp only; omega⟩
  · obtain ⟨high, h2, h⟩ := bind_ok h
    have u1 := unitFrom_in t p 6 p 0 high h2 (by omega)
    split at h
    · injection h with h
      subst h
      have := enc_q6 high
      exact ⟨by simp only; omega, by simp only; omega⟩
    · split at h
      · cases h
      · obtain ⟨low, h3, h⟩ := bind_ok h
        have u2 := unitFrom_in t p 6 (p + 6) 0 low h3 (by omega)
        split at h
        · cases h
        · injection h with h
          subst h
          have := enc_q6 (65536 + (high - 55296) * 1024 + (low - 56320))
          exact ⟨by simp only; omega, by simp only; omega⟩
theorem sign_in {t : ByteArray} {p : Nat} {x : Nat × Nat} (h : signAt t p = .ok x) (hp : p < t.size) (hc : ¬ t.get! p < 32) (h34 : t.get! p ≠ 34) (h92 : t.get! p ≠ 92) : (qBytes (encodeRune (x.1 : Int))).length + p ≤ x.2 ∧ x.2 ≤ t.size := by
  unfold signAt at h
  split at h
  · cases h
  · split at h
    · cases h
    · rename_i hbad
      injection h with h
      subst h
      have hdl : decodeL (t.data.toList.drop p) = Utf8.decode t p := decodeL_drop t p
      have hne := drop_ne hp
      have hv : ¬ ((decodeL (t.data.toList.drop p)).1 = 65533 ∧ (decodeL (t.data.toList.drop p)).2 = 1) := fun e => hbad (by rw [← hdl]; exact Prod.ext e.1 e.2)
      have he := encode_decode _ hne hv
      have hle := decodeL_le _ hne
      rw [sx_len] at hle
      rw [hdl] at he hle
      rw [he]
      refine ⟨?_, by simp only; omega⟩
      simp only
      have hlen : ((t.data.toList.drop p).take (Utf8.decode t p).2).length = (Utf8.decode t p).2 := by rw [List.length_take, sx_len]; omega
      by_cases h128 : 128 ≤ (t.get! p).toNat
      · obtain ⟨c, l, hcl⟩ : ∃ c l, t.data.toList.drop p = c :: l := by
          cases hl : t.data.toList.drop p with
          | nil => exact absurd hl hne
          | cons c l => exact ⟨c, l, rfl⟩
        obtain ⟨-, g2, -⟩ := sx_next hcl
        rw [hcl] at hv hdl hlen ⊢
        have hh := take_high hv (by rw [← g2]; exact h128)
        rw [hdl] at hh
        rw [qBytes_high _ hh, hlen]
        omega
      · have hd1 : (Utf8.decode t p).2 = 1 := by rw [Lib.decode_at, Lib.decodeN_ascii _ _ _ _ _ (by omega)]
        obtain ⟨c, l, hcl⟩ : ∃ c l, t.data.toList.drop p = c :: l := by
          cases hl : t.data.toList.drop p with
          | nil => exact absurd hl hne
          | cons c l => exact ⟨c, l, rfl⟩
        obtain ⟨-, g2, -⟩ := sx_next hcl
        rw [hd1, hcl]
        have hq : qByte c = [c] := by
          rw [g2] at hc h34 h92
          unfold qByte
          rw [if_neg (by rintro (e | e); exact h34 e; exact h92 e), if_neg (fun e => hc (by rw [e]; decide)), if_neg (fun e => hc (by rw [e]; decide)), if_neg (fun e => hc (by rw [e]; decide)), if_neg (fun e => hc (by rw [e]; decide)), if_neg (fun e => hc (by rw [e]; decide)), if_neg hc]
        simp [qBytes, hq]
        omega
theorem quotedFrom_gd (t : ByteArray) : ∀ (n p : Nat) (out : List UInt8) (s : ByteArray) (q : Nat), quotedFrom t n p out = .ok (s, q) → validD out = true → validD s.data.toList = true ∧ (qBytes s.data.toList).length + p + 1 ≤ (qBytes out).length + q ∧ q ≤ t.size
  | 0, p, out, s, q, h, _ => by rw [quotedFrom] at h; cases h
  | n + 1, p, out, s, q, h, hv => by
    rw [quotedFrom] at h
    obtain ⟨c, h1, h⟩ := bind_ok h
    obtain ⟨n1, n2⟩ := next_ok h1
    split at h
    · injection h with h
      injection h with h h'
      subst h h'
      exact ⟨hv, by simp only; omega, by omega⟩
    · rename_i h34
      split at h
      · cases h
      · rename_i h32
        split at h
        · obtain ⟨x, h2, h⟩ := bind_ok h
          obtain ⟨e1, e2⟩ := escape_in h2 n1
          obtain ⟨r1, r2, r3⟩ := quotedFrom_gd t n x.2 _ s q h (validD_add _ _ _ (Nat.le_refl _) hv (enc_any x.1).1)
          rw [qBytes_app, List.length_append] at r2
          exact ⟨r1, by omega, r3⟩
        · rename_i h92
          obtain ⟨x, h2, h⟩ := bind_ok h
          obtain ⟨e1, e2⟩ := sign_in h2 n1 (by rw [n2]; exact h32) (by rw [n2]; exact h34) (by rw [n2]; exact h92)
          obtain ⟨r1, r2, r3⟩ := quotedFrom_gd t n x.2 _ s q h (validD_add _ _ _ (Nat.le_refl _) hv (enc_any x.1).1)
          rw [qBytes_app, List.length_append] at r2
          exact ⟨r1, by omega, r3⟩
theorem quoted_gd {t : ByteArray} {p : Nat} {x : ByteArray × Nat} (h : quoted t p = .ok x) : validD x.1.data.toList = true ∧ p + (qText x.1).length ≤ x.2 ∧ x.2 ≤ t.size := by
  unfold quoted at h
  obtain ⟨q, h1, h⟩ := bind_ok h
  obtain ⟨rfl, -⟩ := take_ok h1
  obtain ⟨r1, r2, r3⟩ := quotedFrom_gd t _ _ [] x.1 x.2 h rfl
  refine ⟨r1, ?_, r3⟩
  unfold qText
  simp [qBytes] at r2 ⊢
  omega
theorem more_in {t : ByteArray} {p : Nat} {e : UInt8} {had : Nat} {m : Bool × Nat} (h : more t p e had = .ok m) : m.2 ≤ t.size ∧ (m.1 = false → p + 1 ≤ m.2) ∧ (m.1 = true → p + (if had = 0 then 0 else 1) ≤ m.2 ∧ had ≠ 64 ∧ m.2 < t.size) := by
  unfold more at h
  obtain ⟨c, h1, h⟩ := bind_ok h
  obtain ⟨n1, -⟩ := next_ok h1
  have b1 := (run_le isBlank t p).1
  unfold blanks at n1 h
  split at h
  · injection h with h
    subst h
    exact ⟨by simp only; omega, (fun _ => by simp only; omega), (fun e => by cases e)⟩
  · split at h
    · rename_i h0
      injection h with h
      subst h
      exact ⟨by simp only; omega, (fun e => by cases e), (fun _ => ⟨by rw [if_pos h0]; simp only; omega, by omega, n1⟩)⟩
    · rename_i h0
      obtain ⟨q, h2, h⟩ := bind_ok h
      obtain ⟨rfl, t2⟩ := take_ok h2
      obtain ⟨c', h3, h⟩ := bind_ok h
      obtain ⟨n3, -⟩ := next_ok h3
      have b2 := (run_le isBlank t (run isBlank t p + 1)).1
      split at h
      · cases h
      · rename_i h64
        injection h with h
        subst h
        exact ⟨by simp only; omega, (fun e => by cases e), (fun _ => ⟨by rw [if_neg h0]; simp only; omega, h64, n3⟩)⟩
end Go.Jv
namespace Go.Jv
open Go.Lib
theorem prL_snoc (l : List V) (x : V) : (prL false (l ++ [x])).length = (prL false l).length + (if l.length = 0 then 0 else 1) + (pr x).length := by
  have ht : ∀ (l : List V), (prL true (l ++ [x])).length = (prL true l).length + 1 + (pr x).length := by
    intro l
    induction l with
    | nil => simp [prL, comma]; omega
    | cons y r ih => simp only [List.cons_append, prL, List.length_append]; omega
  cases l with
  | nil => simp [prL, comma]
  | cons y r =>
    have := ht r
    simp only [List.cons_append, prL, List.length_append, List.length_cons] at this ⊢
    rw [if_neg (by omega)]
    omega
theorem list_gd (t : ByteArray) (d : Nat) (val : Nat → R (V × Nat)) (hval : ∀ p x, val p = .ok x → p ≤ t.size → Gd d x.1 ∧ p + (pr x.1).length ≤ x.2 ∧ x.2 ≤ t.size) : ∀ (n p : Nat) (had : List V) (v : V) (q : Nat), listFrom t val n p had = .ok (v, q) → had.length ≤ 64 → (∀ u ∈ had, Gd d u) →
    ∃ l, v = .list l ∧ l.length ≤ 64 ∧ (∀ u ∈ l, Gd d u) ∧ (prL false l).length + p + 1 ≤ (prL false had).length + q ∧ q ≤ t.size
  | 0, p, had, v, q, h, _, _ => by rw [listFrom] at h; cases h
  | n + 1, p, had, v, q, h, h64, hgd => by
    rw [listFrom] at h
    obtain ⟨m, h1, h⟩ := bind_ok h
    obtain ⟨m1, m2, m3⟩ := more_in h1
    split at h
    · rename_i hm
      injection h with h
      injection h with h h'
      subst h h'
      have := m2 hm
      exact ⟨had, rfl, h64, hgd, by omega, m1⟩
    · rename_i hm
      obtain ⟨m4, m5, m6⟩ := m3 (by simpa using hm)
      obtain ⟨x, h2, h⟩ := bind_ok h
      obtain ⟨v1, v2, v3⟩ := hval _ _ h2 m1
      obtain ⟨l, r1, r2, r3, r4, r5⟩ := list_gd t d val hval n x.2 (had ++ [x.1]) v q h (by simp; omega) (fun u hu => by
        simp only [List.mem_append, List.mem_singleton] at hu
        rcases hu with hu | rfl
        · exact hgd u hu
        · exact v1)
      rw [prL_snoc] at r4
      exact ⟨l, r1, r2, r3, by omega, r5⟩
/-- How many bytes members are, without their commas. -/
def mem1 (k : ByteArray) (v : V) : Nat := (qText k).length + 1 + (pr v).length
def sumO : List ByteArray → List V → Nat
  | k :: ks, v :: vs => mem1 k v + sumO ks vs
  | _, _ => 0
theorem prO_len : ∀ (ks : List ByteArray) (vs : List V) (c : Bool), ks.length = vs.length → (prO c ks vs).length + (if c = false ∧ 0 < vs.length then 1 else 0) = sumO ks vs + vs.length
  | [], [], c, _ => by simp [prO, sumO]
  | [], _ :: _, _, h => by simp at h
  | _ :: _, [], _, h => by simp at h
  | k :: ks, v :: vs, c, h => by
    have ih := prO_len ks vs true (by simpa using h)
    simp only [prO, sumO, mem1, List.length_append, List.length_cons, List.length_nil] at ih ⊢
    cases c
    · simp [comma] at ih ⊢
      omega
    · simp [comma] at ih ⊢
      omega
theorem sumO_ins : ∀ (ks : List ByteArray) (vs : List V) (i : Nat) (k : ByteArray) (v : V), ks.length = vs.length → i ≤ ks.length → sumO (insertAt ks i k) (insertAt vs i v) = sumO ks vs + mem1 k v
  | ks, vs, 0, k, v, _, _ => by simp [insertAt, sumO]; omega
  | [], _, i + 1, _, _, _, hi => by simp at hi
  | _ :: _, [], _ + 1, _, _, h, _ => by simp at h
  | a :: ks, b :: vs, i + 1, k, v, h, hi => by
    have ih := sumO_ins ks vs i k v (by simpa using h) (by simpa using hi)
    simp only [insertAt, List.take_succ_cons, List.drop_succ_cons, List.cons_append, sumO] at ih ⊢
    omega
theorem ins_len {α : Type} (l : List α) (i : Nat) (x : α) (h : i ≤ l.length) : (insertAt l i x).length = l.length + 1 := by
  simp [insertAt]; omega
theorem ins_mem {α : Type} {l : List α} {i : Nat} {x y : α} (h : y ∈ insertAt l i x) : y = x ∨ y ∈ l := by
  simp only [insertAt, List.mem_append, List.mem_cons] at h
  rcases h with h | h | h
  · exact .inr (List.mem_of_mem_take h)
  · exact .inl h
  · exact .inr (List.mem_of_mem_drop h)
theorem bl_lt (a b : ByteArray) : Op.bytesLess a.data.toList b.data.toList = true ↔ a.data.toList < b.data.toList := by
  rw [Go.Proofs.bytesLess_eq]; exact decide_eq_true_iff
/-- Where the search ends among keys that rise. -/
theorem place_in {ks : List ByteArray} (hr : Rising ks) (k : ByteArray) : place ks k ≤ ks.length ∧ (∀ t (ht : t < ks.length), t < place ks k → Op.bytesLess ks[t].data.toList k.data.toList = true) ∧ ∀ t (ht : t < ks.length), place ks k ≤ t → Op.bytesLess ks[t].data.toList k.data.toList = false := by
  have hp : ∀ (l : List ByteArray), Rising l → ∃ m, m ≤ l.length ∧ (∀ t (ht : t < l.length), t < m → Op.bytesLess l[t].data.toList k.data.toList = true) ∧ ∀ t (ht : t < l.length), m ≤ t → Op.bytesLess l[t].data.toList k.data.toList = false := by
    intro l
    induction l with
    | nil => intro _; exact ⟨0, Nat.le_refl _, fun t ht => by simp at ht, fun t ht => by simp at ht⟩
    | cons a r ih =>
      intro hl
      obtain ⟨h1, h2⟩ := List.pairwise_cons.1 hl
      by_cases ha : Op.bytesLess a.data.toList k.data.toList = true
      · obtain ⟨m, m1, m2, m3⟩ := ih h2
        refine ⟨m + 1, by simp; omega, fun t ht hlt => ?_, fun t ht hge => ?_⟩
        · cases t with
          | zero => exact ha
          | succ t => exact m2 t (by simpa using ht) (by omega)
        · cases t with
          | zero => omega
          | succ t => exact m3 t (by simpa using ht) (by omega)
      · refine ⟨0, Nat.zero_le _, fun t ht hlt => by omega, fun t ht _ => ?_⟩
        have hak : ¬ a.data.toList < k.data.toList := fun e => ha ((bl_lt a k).2 e)
        cases t with
        | zero => simpa using ha
        | succ t =>
          have h3 := (bl_lt a _).1 (h1 _ (List.getElem_mem (by simpa using ht : t < r.length)))
          simp only [List.getElem_cons_succ]
          refine Bool.eq_false_iff.2 fun e => hak (List.lt_trans h3 ((bl_lt _ k).1 e))
  obtain ⟨m, m1, m2, m3⟩ := hp ks hr
  have e : place ks k = m := by
    unfold place
    refine bsGo_in _ m ks.length (fun t ht => ?_) (fun t h1 h2 => ?_) _ _ _ (by omega) (by omega) m1 (Nat.le_refl _)
    · rw [List.getD_eq_getElem?_getD, List.getElem?_eq_getElem (by omega : t < ks.length)]
      exact m2 t (by omega) ht
    · rw [List.getD_eq_getElem?_getD, List.getElem?_eq_getElem h2]
      exact m3 t h2 h1
  rw [e]
  exact ⟨m1, m2, m3⟩
theorem ins_rising {ks : List ByteArray} (hr : Rising ks) (k : ByteArray) (hne : ks[place ks k]? ≠ some k) : Rising (insertAt ks (place ks k) k) := by
  obtain ⟨p1, p2, p3⟩ := place_in hr k
  have hgt : ∀ t (ht : t < ks.length), place ks k ≤ t → Op.bytesLess k.data.toList ks[t].data.toList = true := fun t ht hge => by
    have h1 := p3 t ht hge
    have h1' : ¬ ks[t].data.toList < k.data.toList := fun e => by rw [(bl_lt _ k).2 e] at h1; cases h1
    rw [bl_lt]
    rcases Nat.lt_or_ge (place ks k) ks.length with hlt | hge2
    · have hq : ¬ ks[place ks k].data.toList < k.data.toList := fun e => by have := p3 _ hlt (Nat.le_refl _); rw [(bl_lt _ k).2 e] at this; cases this
      have hqk : k.data.toList < ks[place ks k].data.toList := by
        by_cases e : k.data.toList < ks[place ks k].data.toList
        · exact e
        · exfalso
          have e2 : ks[place ks k].data.toList = k.data.toList := List.le_antisymm (List.not_lt.1 e) (List.not_lt.1 hq)
          apply hne
          rw [List.getElem?_eq_getElem hlt]
          congr 1
          apply ByteArray.ext
          exact Array.toList_inj.1 e2
      rcases Nat.lt_or_ge (place ks k) t with h2 | h2
      · exact List.lt_trans hqk ((bl_lt _ _).1 (List.pairwise_iff_getElem.1 hr _ _ hlt ht h2))
      · have : t = place ks k := by omega
        subst this
        exact hqk
    · omega
  unfold Rising insertAt
  refine List.pairwise_append.2 ⟨hr.sublist (List.take_sublist _ _), List.pairwise_cons.2 ⟨fun y hy => ?_, hr.sublist (List.drop_sublist _ _)⟩, fun a ha b hb => ?_⟩
  · obtain ⟨j, hj, rfl⟩ := List.mem_iff_getElem.1 hy
    rw [List.getElem_drop]
    exact hgt _ (by simp at hj; omega) (by omega)
  · obtain ⟨i, hi, rfl⟩ := List.mem_iff_getElem.1 ha
    rw [List.getElem_take]
    have hi' : i < place ks k := by simp at hi; omega
    rcases List.mem_cons.1 hb with rfl | hb
    · exact p2 i (by omega) hi'
    · obtain ⟨j, hj, rfl⟩ := List.mem_iff_getElem.1 hb
      rw [List.getElem_drop]
      exact List.pairwise_iff_getElem.1 hr _ _ (by omega) (by simp at hj; omega) (by omega)
theorem key_gd {t : ByteArray} {p : Nat} {had : List ByteArray} {k : ByteArray × Nat} (h : key t p had = .ok k) : validD k.1.data.toList = true ∧ p + (qText k.1).length + 1 ≤ k.2 ∧ k.2 ≤ t.size ∧ had[place had k.1]? ≠ some k.1 := by
  unfold key at h
  obtain ⟨c, h1, h⟩ := bind_ok h
  split at h
  · cases h
  · obtain ⟨x, h2, h⟩ := bind_ok h
    obtain ⟨q1, q2, q3⟩ := quoted_gd h2
    split at h
    · cases h
    · rename_i hne
      obtain ⟨q, h3, h⟩ := bind_ok h
      obtain ⟨rfl, t3⟩ := take_ok h3
      injection h with h
      subst h
      have b1 := (run_le isBlank t x.2).1
      have b2 := run_le isBlank t (blanks t x.2 + 1)
      unfold blanks at *
      exact ⟨q1, by simp only; omega, by simp only; exact b2.2 (by omega), hne⟩
theorem obj_gd (t : ByteArray) (d : Nat) (val : Nat → R (V × Nat)) (hval : ∀ p x, val p = .ok x → p ≤ t.size → Gd d x.1 ∧ p + (pr x.1).length ≤ x.2 ∧ x.2 ≤ t.size) : ∀ (n p : Nat) (ks : List ByteArray) (had : List V) (v : V) (q : Nat), objFrom t val n p ks had = .ok (v, q) → ks.length = had.length → had.length ≤ 64 → Rising ks → (∀ k ∈ ks, validD k.data.toList = true) → (∀ u ∈ had, Gd d u) →
    ∃ ks' l, v = .obj ks' l ∧ ks'.length = l.length ∧ l.length ≤ 64 ∧ Rising ks' ∧ (∀ k ∈ ks', validD k.data.toList = true) ∧ (∀ u ∈ l, Gd d u) ∧ (prO false ks' l).length + p + 1 ≤ (prO false ks had).length + q ∧ q ≤ t.size
  | 0, p, ks, had, v, q, h, _, _, _, _, _ => by rw [objFrom] at h; cases h
  | n + 1, p, ks, had, v, q, h, hl, h64, hr, hk, hgd => by
    rw [objFrom] at h
    obtain ⟨m, h1, h⟩ := bind_ok h
    obtain ⟨m1, m2, m3⟩ := more_in h1
    split at h
    · rename_i hm
      injection h with h
      injection h with h h'
      subst h h'
      have := m2 hm
      exact ⟨ks, had, rfl, hl, h64, hr, hk, hgd, by omega, m1⟩
    · rename_i hm
      obtain ⟨m4, m5, m6⟩ := m3 (by simpa using hm)
      obtain ⟨k, h2, h⟩ := bind_ok h
      obtain ⟨k1, k2, k3, k4⟩ := key_gd h2
      obtain ⟨x, h3, h⟩ := bind_ok h
      obtain ⟨v1, v2, v3⟩ := hval _ _ h3 k3
      have hpl := (place_in hr k.1).1
      obtain ⟨ks', l, r1, r2, r3, r4, r5, r6, r7, r8⟩ := obj_gd t d val hval n x.2 _ _ v q h (by rw [ins_len _ _ _ hpl, ins_len _ _ _ (by omega)]; omega) (by rw [ins_len _ _ _ (by omega)]; omega) (ins_rising hr k.1 k4) (fun y hy => by
        rcases ins_mem hy with rfl | hy
        · exact k1
        · exact hk y hy) (fun u hu => by
        rcases ins_mem hu with rfl | hu
        · exact v1
        · exact hgd u hu)
      have e1 := prO_len ks had false hl
      have e2 := prO_len (insertAt ks (place ks k.1) k.1) (insertAt had (place ks k.1) x.1) false (by rw [ins_len _ _ _ hpl, ins_len _ _ _ (by omega)]; omega)
      rw [sumO_ins _ _ _ _ _ hl hpl, ins_len _ _ _ (by omega : place ks k.1 ≤ had.length)] at e2
      unfold mem1 at e2
      refine ⟨ks', l, r1, r2, r3, r4, r5, r6, ?_, r8⟩
      simp at e1 e2
      split at m4 <;> split at e1 <;> omega
theorem value_gd (t : ByteArray) : ∀ (d p : Nat) (x : V × Nat), value t d p = .ok x → p ≤ t.size → Gd d x.1 ∧ p + (pr x.1).length ≤ x.2 ∧ x.2 ≤ t.size := by
  intro d
  induction d with
  | zero =>
    intro p x h hp
    rw [value] at h
    obtain ⟨c, h1, h⟩ := bind_ok h
    split at h
    · obtain ⟨w1, w2, w3⟩ := word_gd hp h; exact ⟨w1 _, w2, w3⟩
    · split at h
      · obtain ⟨w1, w2, w3⟩ := number_gd hp h; exact ⟨w1 _, w2, w3⟩
      · split at h
        · obtain ⟨y, h2, h⟩ := bind_ok h
          obtain ⟨q1, q2, q3⟩ := quoted_gd h2
          injection h with h
          subst h
          exact ⟨q1, by simp only [pr]; exact q2, q3⟩
        · split at h
          · cases h
          · split at h
            · cases h
            · cases h
  | succ d ih =>
    intro p x h hp
    rw [value] at h
    obtain ⟨c, h1, h⟩ := bind_ok h
    obtain ⟨n1, -⟩ := next_ok h1
    split at h
    · obtain ⟨w1, w2, w3⟩ := word_gd hp h; exact ⟨w1 _, w2, w3⟩
    · split at h
      · obtain ⟨w1, w2, w3⟩ := number_gd hp h; exact ⟨w1 _, w2, w3⟩
      · split at h
        · obtain ⟨y, h2, h⟩ := bind_ok h
          obtain ⟨q1, q2, q3⟩ := quoted_gd h2
          injection h with h
          subst h
          exact ⟨q1, by simp only [pr]; exact q2, q3⟩
        · split at h
          · obtain ⟨l, r1, r2, r3, r4, r5⟩ := list_gd t d (value t d) ih 66 (p + 1) [] x.1 x.2 h (by simp) (fun u hu => by simp at hu)
            rw [r1]
            refine ⟨⟨r2, r3⟩, ?_, r5⟩
            simp [pr, prL] at r4 ⊢
            omega
          · split at h
            · obtain ⟨ks, l, r1, r2, r3, r4, r5, r6, r7, r8⟩ := obj_gd t d (value t d) ih 66 (p + 1) [] [] x.1 x.2 h rfl (by simp) List.Pairwise.nil (fun u hu => by simp at hu) (fun u hu => by simp at hu)
              rw [r1]
              refine ⟨⟨r2, r3, r4, r5, r6⟩, ?_, r8⟩
              simp [pr, prO] at r7 ⊢
              omega
            · cases h
theorem parse_gd {t : ByteArray} {v : V} (h : parse t = .ok v) : Gd 10 v ∧ (pr v).length ≤ t.size ∧ t.size ≤ 4096 := by
  unfold parse at h
  split at h
  · cases h
  · rename_i hs
    unfold wholeText at h
    obtain ⟨x, h1, h⟩ := bind_ok h
    obtain ⟨v1, v2, v3⟩ := value_gd t 10 _ x h1 ((run_le isBlank t 0).2 (Nat.zero_le _))
    split at h
    · cases h
    · injection h with h
      subst h
      exact ⟨v1, by omega, by omega⟩
end Go.Jv
