/-
  Laid together by packg.py of TmP TmD TmE.
-/
import Derived.Test.YtcakkkafanpjaaaGreatDoorQaA
import Derived.Test.YtcakkkafanpjaaaGreatDoorQaJ
import Derived.Test.YtcakkkafanpjaaaGreatDoorQaF
import Derived.Deep.CutBlock
namespace Go.Jv
open Go.RowKit Go.Lib
/-- What digits spell. -/
def decV : Nat → List UInt8 → Nat
  | a, [] => a
  | a, c :: r => decV (a * 10 + (c.toNat - 48)) r
theorem decV_ge : ∀ (l : List UInt8) (a : Nat), a ≤ decV a l
  | [], a => Nat.le_refl _
  | c :: r, a => by
    have := decV_ge r (a * 10 + (c.toNat - 48))
    show a ≤ decV _ r
    omega
theorem decV_app : ∀ (l m : List UInt8) (a : Nat), decV a (l ++ m) = decV (decV a l) m
  | [], _, _ => rfl
  | _c :: r, m, _a => decV_app r m _
/-- What the library reads of digits that spell a number that may be. -/
theorem parseM_is (M : Nat) (hM : 18446744073709551615 ≤ M) : ∀ (l : List UInt8) (a : Nat), (∀ c ∈ l, isDigit c = true) → (decV a l ≤ 9007199254740991 → parseUintM M a l = .ok (decV a l)) ∧ (9007199254740991 < decV a l → parseUintM M a l = .range ∨ parseUintM M a l = .ok (decV a l))
  | [], a, _ => ⟨fun _ => rfl, fun _ => .inr rfl⟩
  | c :: r, a, h => by
    have hc : isDigit c = true := h c (List.mem_cons_self ..)
    have hc2 : 48 ≤ c.toNat ∧ c.toNat ≤ 57 := by simpa [isDigit] using hc
    have ih := parseM_is M hM r (a * 10 + (c.toNat - 48)) fun d hd => h d (List.mem_cons_of_mem _ hd)
    have hg := decV_ge r (a * 10 + (c.toNat - 48))
    have e : decV a (c :: r) = decV (a * 10 + (c.toNat - 48)) r := rfl
    rw [e]
    unfold parseUintM
    rw [if_pos hc2]
    constructor
    · intro h1
      rw [if_neg (by omega), if_neg (by omega)]
      exact ih.1 h1
    · intro h1
      split
      · exact .inl rfl
      · split
        · exact .inl rfl
        · exact ih.2 h1
theorem parseM_other (M : Nat) : ∀ (l : List UInt8) (a : Nat) (c : UInt8), c ∈ l → isDigit c = false → ∀ u, parseUintM M a l ≠ .ok u
  | d :: r, a, c, hc, hf, u => by
    unfold parseUintM
    split
    · split
      · exact fun e => by cases e
      · split
        · exact fun e => by cases e
        · rcases List.mem_cons.1 hc with e | e
          · subst e
            rename_i h1 _ _
            have : isDigit c = true := by simp only [isDigit, decide_eq_true_eq]; assumption
            rw [hf] at this; cases this
          · exact parseM_other M r _ c e hf u
    · exact fun e => by cases e
def isPlain (s : ByteArray) : Bool := decide (dg2 (trim s) = emp)
theorem dgs_list (s : ByteArray) : s.data.toList = (dg1 s).data.toList ++ (dg2 s).data.toList := by
  simp [dg1, dg2, List.takeWhile_append_dropWhile]
theorem takeW_mem (f : UInt8 → Bool) : ∀ (l : List UInt8) {c : UInt8}, c ∈ l.takeWhile f → f c = true
  | d :: r, c, h => by
    rw [List.takeWhile_cons] at h
    split at h
    · rename_i hd
      rcases List.mem_cons.1 h with e | e
      · rw [e]; exact hd
      · exact takeW_mem f r e
    · cases h
theorem dg1_dig (s : ByteArray) : ∀ c ∈ (dg1 s).data.toList, isDigit c = true := by
  intro c hc
  have hc : c ∈ s.data.toList.takeWhile isDigit := by simpa [dg1] using hc
  exact takeW_mem _ _ hc
theorem trim_cases (s : ByteArray) : (∃ r, s.data.toList = 45 :: r ∧ (trim s).data.toList = r ∧ pre s 45 = true) ∨ ((trim s) = s ∧ pre s 45 = false) := by
  unfold trim pre
  cases h : s.data.toList with
  | nil =>
    right
    refine ⟨?_, by simp [hasPrefix]⟩
    cases s; simp at h; subst h; rfl
  | cons c r =>
    by_cases hc : c = 45
    · subst hc
      left
      exact ⟨r, rfl, by simp [trimPrefix, hasPrefix], by simp [hasPrefix]⟩
    · right
      refine ⟨?_, ?_⟩
      · have : trimPrefix (c :: r) [45] = c :: r := by
          simp [trimPrefix, hasPrefix]
          intro h2; exact absurd h2.symm hc
        rw [this, ← h]
      · show (45 == c && _) = false
        rw [beq_eq_false_iff_ne.2 (fun e => hc e.symm)]; rfl
theorem emp_list (x : ByteArray) : x = emp ↔ x.data.toList = [] := by
  constructor
  · rintro rfl; rfl
  · intro h; cases x; simp at h; subst h; rfl
theorem isNumber_dg (s : ByteArray) (h : isNumber s = true) : (dg1 (trim s)).data.toList ≠ [] := by
  intro e
  unfold isNumber at h
  rw [if_pos ((emp_list _).2 e)] at h
  cases h
theorem uint_is {l : List UInt8} (h0 : l ≠ []) (hd : ∀ c ∈ l, isDigit c = true) : (decV 0 l ≤ 9007199254740991 → parseUintB 64 l = .ok (decV 0 l)) ∧ (9007199254740991 < decV 0 l → parseUintB 64 l = .range ∨ parseUintB 64 l = .ok (decV 0 l)) := by
  unfold parseUintB
  rw [if_neg h0]
  exact parseM_is _ (by decide) l 0 hd
theorem numOf_list {s : ByteArray} {l : List UInt8} {neg : Bool} (hs : s.data.toList = if neg then 45 :: l else l) (h0 : l ≠ []) (hd : ∀ c ∈ l, isDigit c = true) :
    numOf s = if decV 0 l ≤ 9007199254740991 then some (if neg then -((decV 0 l : Nat) : Int) else ((decV 0 l : Nat) : Int)) else none := by
  obtain ⟨u1, u2⟩ := uint_is h0 hd
  have key : ∀ x : NumEnd Nat, parseUintB 64 l = x → parseIntB 64 s.data.toList = match x with
      | .syntax => .syntax
      | .range => .range
      | .ok u => if ¬ neg = true ∧ 2 ^ 63 ≤ u then .range else if neg = true ∧ 2 ^ 63 < u then .range else .ok (if neg = true then -(u : Int) else u) := by
    intro x hx
    cases neg with
    | true =>
      rw [hs]
      simp only [if_true, parseIntB]
      rw [if_pos (.inr (by decide)), hx]
      cases x <;> simp
    | false =>
      rw [hs]
      simp only [Bool.false_eq_true, if_false]
      cases l with
      | nil => exact absurd rfl h0
      | cons c r =>
        have hc : isDigit c = true := hd c (List.mem_cons_self ..)
        have hc2 : 48 ≤ c.toNat ∧ c.toNat ≤ 57 := by simpa [isDigit] using hc
        have n1 : ¬ (c.toNat = 43 ∨ c.toNat = 45) := by omega
        have n2 : ¬ c.toNat = 45 := by omega
        simp only [parseIntB]
        rw [if_neg n1, hx]
        cases x <;> simp [n2]
  generalize decV 0 l = v at *
  unfold numOf
  by_cases hv : v ≤ 9007199254740991
  · rw [if_pos hv, key _ (u1 hv)]
    simp only
    rw [if_neg (by omega), if_neg (by omega)]
    simp only
    rw [if_pos (by unfold maxInt; cases neg <;> simp <;> omega)]
  · rw [if_neg hv]
    rcases u2 (by omega) with e | e
    · rw [key _ e]
    · rw [key _ e]
      simp only
      split
      · rename_i n hn
        split at hn
        · cases hn
        · split at hn
          · cases hn
          · injection hn with hn
            subst hn
            rw [if_neg (by unfold maxInt; cases neg <;> simp <;> omega)]
      · rfl
theorem numOf_plain {s : ByteArray} (hn : isNumber s = true) (hp : isPlain s = true) :
    numOf s = if decV 0 (trim s).data.toList ≤ 9007199254740991 then some (if pre s 45 = true then -((decV 0 (trim s).data.toList : Nat) : Int) else ((decV 0 (trim s).data.toList : Nat) : Int)) else none := by
  have h2 : dg2 (trim s) = emp := by simpa [isPlain] using hp
  have h1 := dgs_list (trim s)
  rw [h2] at h1
  have h1 : (trim s).data.toList = (dg1 (trim s)).data.toList := by rw [h1]; simp [emp]
  have hd := dg1_dig (trim s)
  rw [← h1] at hd
  have h0 := isNumber_dg s hn
  rw [← h1] at h0
  rcases trim_cases s with ⟨r, e1, e2, e3⟩ | ⟨e1, e2⟩
  · rw [e2] at hd h0 ⊢
    rw [e3]
    exact numOf_list (neg := true) (by rw [e1]; rfl) h0 hd
  · rw [e1] at hd h0 ⊢
    rw [e2]
    exact numOf_list (neg := false) rfl h0 hd
theorem numOf_other {s : ByteArray} (hn : isNumber s = true) (hp : isPlain s = false) : numOf s = none := by
  have h2 : dg2 (trim s) ≠ emp := by simpa [isPlain] using hp
  have h3 : (dg2 (trim s)).data.toList ≠ [] := fun e => h2 ((emp_list _).2 e)
  have h1 := dgs_list (trim s)
  obtain ⟨c, r, hcr⟩ : ∃ c r, (dg2 (trim s)).data.toList = c :: r := by
    cases h : (dg2 (trim s)).data.toList with
    | nil => exact absurd h h3
    | cons c r => exact ⟨c, r, rfl⟩
  have hc : isDigit c = false := by
    have : (trim s).data.toList.dropWhile isDigit = c :: r := by simpa [dg2] using hcr
    have h4 := List.head?_dropWhile_not isDigit (trim s).data.toList
    rw [this] at h4
    simpa using h4
  have hm : c ∈ (trim s).data.toList := by rw [h1, hcr]; simp
  have hu : ∀ l : List UInt8, c ∈ l → ∀ u, parseUintB 64 l ≠ .ok u := fun l hl u => by
    unfold parseUintB
    split
    · exact fun e => by cases e
    · exact parseM_other _ l 0 c hl hc u
  have hi : ∀ n, parseIntB 64 s.data.toList ≠ .ok n := by
    intro n
    rcases trim_cases s with ⟨r2, e1, e2, e3⟩ | ⟨e1, e2⟩
    · rw [e2] at hm
      rw [e1]
      simp only [parseIntB]
      rw [if_pos (.inr (by decide))]
      cases hx : parseUintB 64 r2 with
      | ok u => exact absurd hx (hu r2 hm u)
      | _ => simp
    · rw [e1] at hm h1
      have h0 := isNumber_dg s hn
      rw [e1] at h0
      cases hl : s.data.toList with
      | nil => rw [hl] at hm; cases hm
      | cons d q =>
        rw [hl] at hm
        have hd : isDigit d = true := by
          cases hg : (dg1 s).data.toList with
          | nil => exact absurd hg h0
          | cons x y =>
            rw [hl, hg] at h1
            have h5 : d = x := by simp at h1; exact h1.1
            rw [h5]
            exact dg1_dig s x (by rw [hg]; exact List.mem_cons_self ..)
        have hc2 : 48 ≤ d.toNat ∧ d.toNat ≤ 57 := by simpa [isDigit] using hd
        simp only [parseIntB]
        rw [if_neg (by omega)]
        cases hx : parseUintB 64 (d :: q) with
        | ok u => exact absurd hx (hu _ hm u)
        | _ => simp
  unfold numOf
  cases hx : parseIntB 64 s.data.toList with
  | ok n => exact absurd hx (hi n)
  | _ => rfl
end Go.Jv
namespace Go.Jv
open Go.RowKit Go.Lib
theorem takeW_at (f : UInt8 → Bool) : ∀ (l : List UInt8) (i : Nat), i ≤ (l.takeWhile f).length → (i < (l.takeWhile f).length ↔ ∃ h : i < l.length, f l[i] = true)
  | [], i, h => by simp
  | c :: r, i, h => by
    rw [List.takeWhile_cons] at h ⊢
    cases hc : f c with
    | false =>
      simp only [hc, Bool.false_eq_true, if_false, List.length_nil] at h ⊢
      obtain rfl : i = 0 := by omega
      simp [hc]
    | true =>
      simp only [hc, if_true, List.length_cons] at h ⊢
      cases i with
      | zero => simp [hc]
      | succ k =>
        have ih := takeW_at f r k (by omega)
        simp only [Nat.add_lt_add_iff_right, List.getElem_cons_succ]
        exact ih
theorem run_at (s : ByteArray) (i : Nat) (h : i ≤ (dg1 s).size) : (i < (dg1 s).size ↔ i < s.size ∧ isDigit (s.get! i) = true) := by
  have e : (dg1 s).size = (s.data.toList.takeWhile isDigit).length := by simp [dg1, ByteArray.size]
  rw [e] at h ⊢
  rw [takeW_at isDigit _ i h]
  constructor
  · rintro ⟨h1, h2⟩
    have h3 : i < s.size := by rw [Lib.size_eq]; exact h1
    refine ⟨h3, ?_⟩
    rw [← Go.Proofs.Jv.get_eq s i h3]
    exact h2
  · rintro ⟨h1, h2⟩
    have h3 : i < s.data.toList.length := by rw [← Lib.size_eq]; exact h1
    refine ⟨h3, ?_⟩
    rw [← Go.Proofs.Jv.get_eq s i h1] at h2
    exact h2
/-- 'Form'. -/
def formN (s : ByteArray) : Nat := if isNumber s = true then (if isPlain s = true then 1 else 2) else 0
theorem pre_nil {x : ByteArray} {c : UInt8} (h : ¬ 0 < x.size) : pre x c = false := by
  have : x.data.toList = [] := List.eq_nil_of_length_eq_zero (by rw [← Lib.size_eq]; omega)
  unfold pre; rw [this]; rfl
theorem pre_get {x : ByteArray} {c : UInt8} (h : 0 < x.size) : pre x c = (((x.get! 0).toNat : Int) == ((c.toNat : Nat) : Int)) := by
  obtain ⟨d, r, hd⟩ : ∃ d r, x.data.toList = d :: r := by
    cases hx : x.data.toList with
    | nil => rw [Lib.size_eq, hx] at h; exact absurd h (by decide)
    | cons d r => exact ⟨d, r, rfl⟩
  have h0 : x.get! 0 = d := by
    rw [← Go.Proofs.Jv.get_eq x 0 h]
    have : x.data.toList[0]? = some d := by rw [hd]; rfl
    have h2 : x.data[0]? = some d := by simpa using this
    obtain ⟨h3, h4⟩ := Array.getElem?_eq_some_iff.1 h2
    exact h4
  unfold pre hasPrefix
  rw [hd, h0]
  show (c == d && true) = _
  rw [Bool.and_true, Bool.eq_iff_iff]
  simp only [beq_iff_eq]
  constructor
  · rintro rfl; rfl
  · intro e; exact UInt8.toNat_inj.1 (by omega)
theorem tail_is (x : ByteArray) : x.extract 1 x.size = tail1 x := rfl
theorem list_ext (x : ByteArray) (i : Nat) : (x.extract i x.size).data.toList = x.data.toList.drop i := by
  rw [ByteArray.data_extract, Array.toList_extract, List.extract_eq_take_drop]
  apply List.take_of_length_le
  rw [List.length_drop, Lib.size_eq]
  exact Nat.le_refl _
theorem bytes_ext {x y : ByteArray} (h : x.data.toList = y.data.toList) : x = y := ByteArray.ext (Array.ext' h)
theorem dg2_is (x : ByteArray) : x.extract (dg1 x).size x.size = dg2 x := by
  apply bytes_ext
  rw [list_ext, dgs_list x, Lib.size_eq (dg1 x)]
  exact List.drop_left
theorem dg1_emp (x : ByteArray) : dg1 x = emp ↔ (dg1 x).size = 0 := by
  rw [emp_list, Lib.size_eq]
  exact (List.length_eq_zero_iff).symm
theorem dot_is (x : ByteArray) : x.extract ((dg1 (tail1 x)).size + 1) x.size = dg2 (tail1 x) := by
  rw [← dg2_is (tail1 x)]
  apply bytes_ext
  rw [list_ext, list_ext]
  unfold tail1
  rw [list_ext, List.drop_drop, Nat.add_comm]
theorem form_A {s : ByteArray} (h : dg1 (trim s) = emp) : formN s = 0 := by
  unfold formN isNumber; rw [if_pos h]; rfl
theorem form_B {s : ByteArray} (h : 1 < (dg1 (trim s)).size) (h0 : (dg1 (trim s)).get! 0 = 48) : formN s = 0 := by
  unfold formN isNumber
  by_cases h1 : dg1 (trim s) = emp
  · rw [if_pos h1]; rfl
  · rw [if_neg h1]
    have h2 : (1 < (dg1 (trim s)).size ∧ (dg1 (trim s)).get! 0 = 48) := ⟨h, h0⟩
    rw [if_pos h2]; rfl
theorem form_C {s : ByteArray} (h1 : ¬ dg1 (trim s) = emp) (h2 : ¬ (1 < (dg1 (trim s)).size ∧ (dg1 (trim s)).get! 0 = 48)) : formN s = if num1 (dg2 (trim s)) = true then (if dg2 (trim s) = emp then 1 else 2) else 0 := by
  unfold formN isNumber isPlain
  rw [if_neg h1, if_neg h2]
  simp only [decide_eq_true_eq]
theorem dg1_head {x : ByteArray} (h : 0 < (dg1 x).size) : (dg1 x).get! 0 = x.get! 0 := by
  have hs : 0 < x.size := by have := Go.Proofs.Jv.dg_size x; omega
  rw [← Go.Proofs.Jv.get_eq _ 0 h, ← Go.Proofs.Jv.get_eq _ 0 hs]
  have e := dgs_list x
  have h1 : x.data.toList[0]? = (dg1 x).data.toList[0]? := by
    rw [e, List.getElem?_append_left (by rw [← Lib.size_eq]; exact h)]
  have h2 : x.data[0]? = (dg1 x).data[0]? := by simpa using h1
  have h3 : x.data[0]? = some x[0] := Array.getElem?_eq_getElem hs
  have h4 : (dg1 x).data[0]? = some (dg1 x)[0] := Array.getElem?_eq_getElem h
  rw [h3, h4] at h2
  injection h2 with h2
  exact h2.symm
end Go.Jv
namespace Go.Proofs
open Go.RowKit Go.Jv
set_option maxRecDepth 20000 in
set_option maxHeartbeats 2000000 in
theorem Tryz.refRun_any (s : ByteArray) (hs : s.size ≤ 5000) (w : World) :
    Calls Tryz.prog 132 #[.string s] w fun e w' => e = .returned (.int .i64 (dg1 s).size) ∧ w' = w := by
  have hat : Hid (∀ i, i ≤ (dg1 s).size → (i < (dg1 s).size ↔ i < s.size ∧ isDigit (s.get! i) = true)) := run_at s
  have hget : Hid (∀ i (h : i < s.size), s[i] = s.get! i) := Jv.get_eq s
  have hz := Jv.dg_size s
  have hz2 : (dg1 s).size ≤ 5000 := by omega
  clear hz
  generalize (dg1 s).size = n at *
  go_enter Tryz.func132, Tryz.ntmps132
  go_wp2
  go_loopw [3] (fun iv wr => ∃ i : Nat, iv = .int .i64 i ∧ i ≤ n ∧ wr = w) (fun iv _ => n - (intOf iv).toNat)
  case atStart => exact ⟨0, rfl, Nat.zero_le _, rfl⟩
  case round =>
    obtain ⟨i, rfl, hi, rfl⟩ := hrel
    have h1 := hat.out i hi
    by_cases hlt : i < n
    · obtain ⟨h2, h3⟩ := h1.1 hlt
      have hg := hget.out i h2
      have h4 : 48 ≤ (s.get! i).toNat ∧ (s.get! i).toNat ≤ 57 := by simpa [isDigit] using h3
      generalize s.get! i = c at *
      have q0 : (0 : Int) ≤ (i : Int) := by omega
      have q1 : (i : Int) < (s.size : Int) := by omega
      have q2 : (48 : Int) ≤ (c.toNat : Int) := by omega
      have q3 : (c.toNat : Int) ≤ 57 := by omega
      clear h1 h3 h4
      go_wp2
      go_roundw
      case rel => exact ⟨i + 1, by simp, hlt, by simp⟩
      case measure => simp [intOf]; omega
    · obtain rfl : i = n := by omega
      have h2 : ¬ (i < s.size ∧ isDigit (s.get! i) = true) := fun e => hlt (h1.2 e)
      by_cases h3 : i < s.size
      · have hg := hget.out i h3
        have h4 : ¬ (48 ≤ (s.get! i).toNat ∧ (s.get! i).toNat ≤ 57) := fun e => h2 ⟨h3, by simpa [isDigit] using e⟩
        generalize s.get! i = c at *
        have q0 : (0 : Int) ≤ (i : Int) := by omega
        have q1 : (i : Int) < (s.size : Int) := by omega
        clear h1 h2 hlt
        by_cases h5 : 48 ≤ c.toNat
        · have q2 : (48 : Int) ≤ (c.toNat : Int) := by omega
          have q3 : ¬ (c.toNat : Int) ≤ 57 := by omega
          clear h4 h5
          go_wp2
          go_ret
          exact ⟨rfl, rfl⟩
        · have q2 : ¬ (48 : Int) ≤ (c.toNat : Int) := by omega
          clear h4 h5
          go_wp2
          go_ret
          exact ⟨rfl, rfl⟩
      · have q1 : ¬ (i : Int) < (s.size : Int) := by omega
        clear h1 h2 hlt
        go_wp2
        go_ret
        exact ⟨rfl, rfl⟩
set_option maxRecDepth 20000 in
set_option maxHeartbeats 16000000 in
theorem Tryz.form_any (s : ByteArray) (hs : s.size ≤ 4096) (w : World) :
    Calls Tryz.prog 110 #[.string s] w fun e w' => e = .returned (.int .i64 (formN s)) ∧ w' = w := by
  have hrun : ∀ (x : ByteArray) (hx : x.size ≤ 4096) w, Calls Tryz.prog 132 #[.string x] w fun e w' => e = .returned (.int .i64 (dg1 x).size) ∧ w = w' := fun x hx w => (Tryz.refRun_any x (by omega) w).mono fun e w' h => ⟨h.1, h.2.symm⟩
  have hsz : ∀ (x : ByteArray) (i j : Nat), x.size ≤ 4096 → (x.extract i j).size ≤ 4096 := fun x i j h => by rw [ByteArray.size_extract]; omega
  have hdz : ∀ x : ByteArray, (dg1 x).size ≤ x.size := fun x => by have := Jv.dg_size x; omega
  have HF : Hid True := trivial
  go_enter Tryz.func110, Tryz.ntmps110
  go_upto_region 1 with (fail)
  go_cut [12] (fun bv wx => bv = .bool (pre s 45) ∧ w = wx)
  case first =>
    clear HF
    by_cases hz : 0 < s.size
    · have q0 : (0 : Int) < (s.size : Int) := by omega
      have hg := Jv.get_eq s 0 hz
      have HP : Hid (∀ c, pre s c = (((s.get! 0).toNat : Int) == ((c.toNat : Nat) : Int))) := fun c => pre_get hz
      generalize s.get! 0 = d at *
      go_wp2
      go_meet
      exact ⟨(by first | (rw [HP.out]; rfl) | rw [HP.out]), rfl⟩
    · have q0 : ¬ (0 : Int) < (s.size : Int) := by omega
      have HP : Hid (∀ c, pre s c = false) := fun c => pre_nil hz
      go_wp2
      go_meet
      exact ⟨(by first | (rw [HP.out]; rfl) | rw [HP.out]), rfl⟩
  case rest =>
    obtain ⟨rfl, rfl⟩ := hcut
    have hts : (trim s).size ≤ 4096 := by have := Jv.trim_size s; omega
    go_upto_if 12 with (fail)
    go_cut [0] (fun sv wx => sv = .string (trim s) ∧ w = wx)
    case first =>
      cases hb : pre s 45 with
      | true =>
        have hz1 : (1 : Int) ≤ (s.size : Int) := Jv.pre_size hb
        have HT : Hid (s.extract 1 s.size = trim s) := (by
          show _ = _
          rcases trim_cases s with ⟨r, e1, e2, e3⟩ | ⟨e1, e2⟩
          · apply bytes_ext
            rw [list_ext, e1, e2]; rfl
          · rw [hb] at e2; cases e2)
        go_wp2
        go_meet
        exact ⟨(by first | (rw [← HT.out]; rfl) | rw [← HT.out]), rfl⟩
      | false =>
        have HT : Hid (trim s = s) := (by
          show _ = _
          rcases trim_cases s with ⟨r, e1, e2, e3⟩ | ⟨e1, e2⟩
          · rw [hb] at e3; cases e3
          · exact e1)
        go_wp2
        go_meet
        exact ⟨(by first | (rw [HT.out]; rfl) | rw [HT.out]), rfl⟩
    case rest =>
      obtain ⟨rfl, rfl⟩ := hcut
      have HA : Hid (dg1 (trim s) = emp → formN s = 0) := form_A
      have HB : Hid (1 < (dg1 (trim s)).size → (dg1 (trim s)).get! 0 = 48 → formN s = 0) := form_B
      have HC : Hid (¬ dg1 (trim s) = emp → ¬ (1 < (dg1 (trim s)).size ∧ (dg1 (trim s)).get! 0 = 48) → formN s = if num1 (dg2 (trim s)) = true then (if dg2 (trim s) = emp then 1 else 2) else 0) := form_C
      generalize trim s = s1 at *
      have hr1 := hrun s1 hts
      have hdz1 := hdz s1
      by_cases hA : dg1 s1 = emp
      · have HK := HA.out hA
        have HK : Hid (formN s = 0) := HK
        have h0 : (dg1 s1).size = 0 := (dg1_emp s1).1 hA
        rw [h0] at hr1
        clear HA HB HC hA h0 hdz1
        go_wp2_with (first | (go_at_call 132; refine (hr1 _).mono ?_; rintro e w1 ⟨rfl, rfl⟩) | fail)
        go_ret
        exact ⟨by rw [HK.out]; rfl, rfl⟩
      · have h0 : ¬ (dg1 s1).size = 0 := fun e => hA ((dg1_emp s1).2 e)
        have h01 : (((dg1 s1).size : Int) == 0) = false := beq_eq_false_iff_ne.2 (by omega)
        have hz : 0 < s1.size := by omega
        have q0 : (0 : Int) < (s1.size : Int) := by omega
        have hg := Jv.get_eq s1 0 hz
        have hh : (dg1 s1).get! 0 = s1.get! 0 := dg1_head (by omega)
        by_cases hB : 1 < (dg1 s1).size ∧ (dg1 s1).get! 0 = 48
        · have HK : Hid (formN s = 0) := HB.out hB.1 hB.2
          have q1 : (1 : Int) < ((dg1 s1).size : Int) := by have := hB.1; omega
          rw [hh] at hB
          have q2 : (((s1.get! 0).toNat : Int) == 48) = true := by rw [hB.2]; rfl
          clear HA HB HC hA hB hh h0
          generalize s1.get! 0 = d at *
          generalize (dg1 s1).size = n at *
          go_wp2_with (first | (go_at_call 132; refine (hr1 _).mono ?_; rintro e w1 ⟨rfl, rfl⟩) | fail)
          go_ret
          exact ⟨by rw [HK.out]; rfl, rfl⟩
        · have HF : Hid (formN s = if num1 (dg2 s1) = true then (if dg2 s1 = emp then 1 else 2) else 0) := HC.out hA hB
          have HD : Hid (s1.extract (dg1 s1).size s1.size = dg2 s1) := dg2_is s1
          have hx2 : (dg2 s1).size ≤ 4096 := by have := Jv.dg_size s1; omega
          go_upto_region 4 with (first | (go_at_call 132; refine (hr1 _).mono ?_; rintro e w1 ⟨rfl, rfl⟩) | fail)
          go_cut [27] (fun bv wx => bv = .bool false ∧ w = wx)
          case first =>
            rw [hh] at hB
            by_cases h1 : 1 < (dg1 s1).size
            · have q1 : (1 : Int) < ((dg1 s1).size : Int) := by omega
              have q2 : (((s1.get! 0).toNat : Int) == 48) = false := by
                simp only [beq_eq_false_iff_ne, ne_eq]
                exact fun e => hB ⟨h1, UInt8.toNat_inj.1 (by show (s1.get! 0).toNat = 48; omega)⟩
              clear HA HB HC HF HD hA hB hh h0
              generalize s1.get! 0 = d at *
              generalize (dg1 s1).size = n at *
              go_wp2
              go_meet
              exact ⟨by simp, rfl⟩
            · have q1 : ¬ (1 : Int) < ((dg1 s1).size : Int) := by omega
              clear HA HB HC HF HD hA hB hh h0
              generalize (dg1 s1).size = n at *
              go_wp2
              go_meet
              exact ⟨by simp, rfl⟩
          case rest =>
            obtain ⟨rfl, rfl⟩ := hcut
            have q3 : ((dg1 s1).size : Int) ≤ (s1.size : Int) := by omega
            clear HA HB HC hA hB hh h0 hg
            go_upto_region 8 with (fail)
            rw [HD.out]
            clear HD h01 hdz1 q3 hr1
            generalize dg2 s1 = s2 at *
            go_cut [38] (fun bv wx => bv = .bool (pre s2 46) ∧ w = wx)
            case first =>
              clear HF
              by_cases hz : 0 < s2.size
              · have q0 : (0 : Int) < (s2.size : Int) := by omega
                have hg := Jv.get_eq s2 0 hz
                have HP : Hid (∀ c, pre s2 c = (((s2.get! 0).toNat : Int) == ((c.toNat : Nat) : Int))) := fun c => pre_get hz
                generalize s2.get! 0 = d at *
                go_wp2
                go_meet
                exact ⟨(by first | (rw [HP.out]; rfl) | rw [HP.out]), rfl⟩
              · have q0 : ¬ (0 : Int) < (s2.size : Int) := by omega
                have HP : Hid (∀ c, pre s2 c = false) := fun c => pre_nil hz
                go_wp2
                go_meet
                exact ⟨(by first | (rw [HP.out]; rfl) | rw [HP.out]), rfl⟩
            case rest =>
              obtain ⟨rfl, rfl⟩ := hcut
              cases hdot : pre s2 46 with
              | true =>
                have hz1 : (1 : Int) ≤ (s2.size : Int) := Jv.pre_size hdot
                have hne2 : ¬ s2 = emp := by rintro rfl; revert hdot; decide
                have HF2 : Hid (formN s = if num2 (dg1 (tail1 s2)) (dg2 (tail1 s2)) = true then 2 else 0) := (by
                  show _ = _
                  rw [HF.out]
                  unfold num1
                  rw [if_pos hdot, if_neg hne2])
                have hx3 : (tail1 s2).size ≤ 4096 := hsz _ _ _ hx2
                have hr2 := hrun (tail1 s2) hx3
                have hq2 := Jv.dg_size (tail1 s2)
                have hq3 : (tail1 s2).size = s2.size - 1 := by unfold tail1; rw [ByteArray.size_extract]; omega
                by_cases hp : dg1 (tail1 s2) = emp
                · have HK : Hid (formN s = 0) := (by
                    show _ = _
                    rw [HF2.out, hp]
                    have : num2 emp (dg2 (tail1 s2)) = false := by unfold num2; split <;> (try split) <;> (unfold num3; exact decide_eq_false (fun e => e.1 rfl))
                    rw [this]; rfl)
                  rw [(dg1_emp _).1 hp] at hr2
                  clear HF HF2 hp
                  go_wp2_with (first | (go_at_call 132; refine (hr2 _).mono ?_; rintro e w1 ⟨rfl, rfl⟩) | fail)
                  go_ret
                  exact ⟨by rw [HK.out]; rfl, rfl⟩
                · have hp0 : ¬ (dg1 (tail1 s2)).size = 0 := fun e => hp ((dg1_emp _).2 e)
                  have hp1 : (((dg1 (tail1 s2)).size : Int) == 0) = false := beq_eq_false_iff_ne.2 (by omega)
                  have q4 : ((dg1 (tail1 s2)).size : Int) + 1 ≤ (s2.size : Int) := by omega
                  have HD : Hid (s2.extract ((dg1 (tail1 s2)).size + 1) s2.size = dg2 (tail1 s2)) := dot_is s2
                  have HD2 : Hid ((dg2 (tail1 s2)).size ≤ 4096) := (by show _ ≤ _; omega)
                  obtain ⟨part, hpart⟩ : ∃ part, dg1 (tail1 s2) = part := ⟨_, rfl⟩
                  have HF : Hid (formN s = if num2 part (dg2 (tail1 s2)) = true then 2 else 0) := by rw [← hpart]; exact HF2.out
                  have Hp : Hid (part ≠ emp) := by rw [← hpart]; exact hp
                  rw [hpart] at hr2 hp1 q4 HD hq2
                  clear HF2 hp hp0 hpart
                  have hq5 : part.size ≤ 4096 := by omega
                  generalize part.size = m at *
                  go_upto_region 14 with (first | (go_at_call 132; refine (hr2 _).mono ?_; rintro e w1 ⟨rfl, rfl⟩) | fail)
                  rw [HD.out]
                  have hx : (dg2 (tail1 s2)).size ≤ 4096 := HD2.out
                  clear HD HD2 hq2 hq3 q4 hp1 hr2 hne2 hz1 hx3 hdot hq5
                  generalize dg2 (tail1 s2) = s3 at *
                  go_cut [60] (fun bv wx => bv = .bool (pre s3 101 || pre s3 69) ∧ w = wx)
                  case first =>
                    clear HF
                    by_cases hz : 0 < s3.size
                    · have q0 : (0 : Int) < (s3.size : Int) := by omega
                      have hg := Jv.get_eq s3 0 hz
                      have HP : Hid (∀ c, pre s3 c = (((s3.get! 0).toNat : Int) == ((c.toNat : Nat) : Int))) := fun c => pre_get hz
                      generalize s3.get! 0 = d at *
                      by_cases hd : (d.toNat : Int) = 101
                      · have hd1 : ((d.toNat : Int) == 101) = true := by simpa using hd
                        go_wp2
                        go_meet
                        exact ⟨by rw [HP.out, HP.out]; simp [hd], rfl⟩
                      · have hd1 : ((d.toNat : Int) == 101) = false := by simpa using hd
                        go_wp2
                        go_meet
                        exact ⟨by rw [HP.out, HP.out]; simp [hd], rfl⟩
                    · have q0 : ¬ (0 : Int) < (s3.size : Int) := by omega
                      have HP : Hid (∀ c, pre s3 c = false) := fun c => pre_nil hz
                      go_wp2
                      go_meet
                      exact ⟨(by first | (rw [HP.out, HP.out]; rfl) | rw [HP.out, HP.out]), rfl⟩
                  case rest =>
                    obtain ⟨rfl, rfl⟩ := hcut
                    cases he : (pre s3 101 || pre s3 69) with
                    | false =>
                      have HN : Hid (num2 part s3 = num3 part nought s3) := by show _ = _; unfold num2; rw [if_neg (by rw [Bool.or_eq_false_iff] at he; rw [he.1, he.2]; simp)]
                      by_cases hem : s3 = emp
                      · have HK : Hid (formN s = 2) := by show _ = _; rw [HF.out, HN.out]; unfold num3; rw [decide_eq_true (show part ≠ emp ∧ nought ≠ emp ∧ s3 = emp from ⟨Hp.out, by decide, hem⟩)]; rfl
                        have he1 : s3.toList.isEmpty = true := (Jv.emp_iff s3).1 hem
                        clear HF HN Hp hem
                        go_wp2
                        go_ret
                        exact ⟨by rw [HK.out]; rfl, rfl⟩
                      · have HK : Hid (formN s = 0) := by show _ = _; rw [HF.out, HN.out]; unfold num3; rw [decide_eq_false (fun e => hem e.2.2)]; rfl
                        have he1 : s3.toList.isEmpty = false := by simpa using fun e => hem ((Jv.emp_iff s3).2 e)
                        clear HF HN Hp hem
                        go_wp2
                        go_ret
                        exact ⟨by rw [HK.out]; rfl, rfl⟩
                    | true =>
                      have hne : ¬ s3 = emp := by rintro rfl; revert he; decide
                      have hz1 : (1 : Int) ≤ (s3.size : Int) := by have := (Bool.or_eq_true _ _).mp he; rcases this with e | e <;> exact Jv.pre_size e
                      have hsz1 : (tail1 s3).size ≤ 4096 := hsz _ _ _ hx
                      have HN : Hid (num2 part s3 = if pre (tail1 s3) 43 = true ∨ pre (tail1 s3) 45 = true then num3 part (dg1 (tail1 (tail1 s3))) (dg2 (tail1 (tail1 s3))) else num3 part (dg1 (tail1 s3)) (dg2 (tail1 s3))) := by show _ = _; unfold num2; rw [if_pos ((Bool.or_eq_true _ _).mp he)]
                      go_upto_region 17 with (fail)
                      simp only [tail_is]
                      generalize tail1 s3 = y at *
                      go_cut [75] (fun bv wx => bv = .bool (pre y 43 || pre y 45) ∧ w = wx)
                      case first =>
                        clear HF
                        by_cases hz : 0 < y.size
                        · have q0 : (0 : Int) < (y.size : Int) := by omega
                          have hg := Jv.get_eq y 0 hz
                          have HP : Hid (∀ c, pre y c = (((y.get! 0).toNat : Int) == ((c.toNat : Nat) : Int))) := fun c => pre_get hz
                          generalize y.get! 0 = d at *
                          by_cases hd : (d.toNat : Int) = 43
                          · have hd1 : ((d.toNat : Int) == 43) = true := by simpa using hd
                            go_wp2
                            go_meet
                            exact ⟨by rw [HP.out, HP.out]; simp [hd], rfl⟩
                          · have hd1 : ((d.toNat : Int) == 43) = false := by simpa using hd
                            go_wp2
                            go_meet
                            exact ⟨by rw [HP.out, HP.out]; simp [hd], rfl⟩
                        · have q0 : ¬ (0 : Int) < (y.size : Int) := by omega
                          have HP : Hid (∀ c, pre y c = false) := fun c => pre_nil hz
                          go_wp2
                          go_meet
                          exact ⟨(by first | (rw [HP.out, HP.out]; rfl) | rw [HP.out, HP.out]), rfl⟩
                      case rest =>
                        obtain ⟨rfl, rfl⟩ := hcut
                        obtain ⟨z, hz⟩ : ∃ z, (if pre y 43 = true ∨ pre y 45 = true then tail1 y else y) = z := ⟨_, rfl⟩
                        have HN2 : Hid (num2 part s3 = num3 part (dg1 z) (dg2 z)) := by show _ = _; rw [HN.out, ← hz]; split <;> rfl
                        have hzz : z.size ≤ 4096 := by rw [← hz]; split; exact hsz _ _ _ hsz1; exact hsz1
                        have HZ : Hid ((if pre y 43 = true ∨ pre y 45 = true then tail1 y else y) = z) := hz
                        clear HN hz
                        go_upto_if 75 with (fail)
                        go_cut [0] (fun sv wx => sv = .string z ∧ w = wx)
                        case first =>
                          cases hs2 : (pre y 43 || pre y 45) with
                          | true =>
                            have hz1 : (1 : Int) ≤ (y.size : Int) := by have := (Bool.or_eq_true _ _).mp hs2; rcases this with e | e <;> exact Jv.pre_size e
                            go_wp2
                            go_meet
                            exact ⟨by rw [← HZ.out, if_pos ((Bool.or_eq_true _ _).mp hs2)]; rfl, rfl⟩
                          | false =>
                            go_wp2
                            go_meet
                            exact ⟨by rw [← HZ.out, if_neg (by rw [Bool.or_eq_false_iff] at hs2; rw [hs2.1, hs2.2]; simp)], rfl⟩
                        case rest =>
                          obtain ⟨rfl, rfl⟩ := hcut
                          have hr1 := hrun z hzz
                          by_cases hp : dg1 z = emp
                          · have HK : Hid (formN s = 0) := by show _ = _; rw [HF.out, HN2.out]; unfold num3; rw [decide_eq_false (fun e => e.2.1 hp)]; rfl
                            have hp0 : (dg1 z).size = 0 := (dg1_emp z).1 hp
                            rw [hp0] at hr1
                            clear HF HN2 Hp hp hp0
                            go_wp2_with (first | (go_at_call 132; refine (hr1 _).mono ?_; rintro e w1 ⟨rfl, rfl⟩) | fail)
                            go_ret
                            exact ⟨by rw [HK.out]; rfl, rfl⟩
                          · have hp0 : ¬ (dg1 z).size = 0 := fun e => hp ((dg1_emp z).2 e)
                            have hp1 : (((dg1 z).size : Int) == 0) = false := beq_eq_false_iff_ne.2 (by omega)
                            have hp2 : ((dg1 z).size : Int) ≤ (z.size : Int) := by have := hdz z; omega
                            have HD : Hid (z.extract (dg1 z).size z.size = dg2 z) := dg2_is z
                            by_cases hem : dg2 z = emp
                            · have HK : Hid (formN s = 2) := by show _ = _; rw [HF.out, HN2.out]; unfold num3; rw [decide_eq_true (show part ≠ emp ∧ dg1 z ≠ emp ∧ dg2 z = emp from ⟨Hp.out, hp, hem⟩)]; rfl
                              have he1 : (dg2 z).toList.isEmpty = true := (Jv.emp_iff _).1 hem
                              rw [← HD.out] at he1
                              clear HF HN2 Hp hp hp0 hem HD
                              generalize (dg1 z).size = m at *
                              go_wp2_with (first | (go_at_call 132; refine (hr1 _).mono ?_; rintro e w1 ⟨rfl, rfl⟩) | fail)
                              go_ret
                              exact ⟨by rw [HK.out]; rfl, rfl⟩
                            · have HK : Hid (formN s = 0) := by show _ = _; rw [HF.out, HN2.out]; unfold num3; rw [decide_eq_false (fun e => hem e.2.2)]; rfl
                              have he1 : (dg2 z).toList.isEmpty = false := by simpa using fun e => hem ((Jv.emp_iff _).2 e)
                              rw [← HD.out] at he1
                              clear HF HN2 Hp hp hp0 hem HD
                              generalize (dg1 z).size = m at *
                              go_wp2_with (first | (go_at_call 132; refine (hr1 _).mono ?_; rintro e w1 ⟨rfl, rfl⟩) | fail)
                              go_ret
                              exact ⟨by rw [HK.out]; rfl, rfl⟩
              | false =>
                have HF2 : Hid (formN s = if num2 nought s2 = true then (if s2 = emp then 1 else 2) else 0) := (by
                  have e1 : num1 s2 = num2 nought s2 := if_neg (by rw [hdot]; exact Bool.false_ne_true)
                  show _ = _
                  rw [HF.out, e1])
                have HF : Hid (formN s = if num2 nought s2 = true then (if s2 = emp then 1 else 2) else 0) := HF2.out
                have Hp : Hid (nought ≠ emp) := (by show _ ≠ _; decide)
                have hx : s2.size ≤ 4096 := hx2
                clear HF2
                go_upto_region 14 with (fail)
                go_cut [60] (fun bv wx => bv = .bool (pre s2 101 || pre s2 69) ∧ w = wx)
                case first =>
                  clear HF
                  by_cases hz : 0 < s2.size
                  · have q0 : (0 : Int) < (s2.size : Int) := by omega
                    have hg := Jv.get_eq s2 0 hz
                    have HP : Hid (∀ c, pre s2 c = (((s2.get! 0).toNat : Int) == ((c.toNat : Nat) : Int))) := fun c => pre_get hz
                    generalize s2.get! 0 = d at *
                    by_cases hd : (d.toNat : Int) = 101
                    · have hd1 : ((d.toNat : Int) == 101) = true := by simpa using hd
                      go_wp2
                      go_meet
                      exact ⟨by rw [HP.out, HP.out]; simp [hd], rfl⟩
                    · have hd1 : ((d.toNat : Int) == 101) = false := by simpa using hd
                      go_wp2
                      go_meet
                      exact ⟨by rw [HP.out, HP.out]; simp [hd], rfl⟩
                  · have q0 : ¬ (0 : Int) < (s2.size : Int) := by omega
                    have HP : Hid (∀ c, pre s2 c = false) := fun c => pre_nil hz
                    go_wp2
                    go_meet
                    exact ⟨(by first | (rw [HP.out, HP.out]; rfl) | rw [HP.out, HP.out]), rfl⟩
                case rest =>
                  obtain ⟨rfl, rfl⟩ := hcut
                  cases he : (pre s2 101 || pre s2 69) with
                  | false =>
                    have HN : Hid (num2 nought s2 = num3 nought nought s2) := by show _ = _; unfold num2; rw [if_neg (by rw [Bool.or_eq_false_iff] at he; rw [he.1, he.2]; simp)]
                    by_cases hem : s2 = emp
                    · have HK : Hid (formN s = 1) := by show _ = _; rw [HF.out, HN.out]; unfold num3; rw [decide_eq_true (show nought ≠ emp ∧ nought ≠ emp ∧ s2 = emp from ⟨Hp.out, by decide, hem⟩)]; exact (if_pos rfl).trans (if_pos hem)
                      have he1 : s2.toList.isEmpty = true := (Jv.emp_iff s2).1 hem
                      clear HF HN Hp hem
                      go_wp2
                      go_ret
                      exact ⟨by rw [HK.out]; rfl, rfl⟩
                    · have HK : Hid (formN s = 0) := by show _ = _; rw [HF.out, HN.out]; unfold num3; rw [decide_eq_false (fun e => hem e.2.2)]; rfl
                      have he1 : s2.toList.isEmpty = false := by simpa using fun e => hem ((Jv.emp_iff s2).2 e)
                      clear HF HN Hp hem
                      go_wp2
                      go_ret
                      exact ⟨by rw [HK.out]; rfl, rfl⟩
                  | true =>
                    have hne : ¬ s2 = emp := by rintro rfl; revert he; decide
                    have hz1 : (1 : Int) ≤ (s2.size : Int) := by have := (Bool.or_eq_true _ _).mp he; rcases this with e | e <;> exact Jv.pre_size e
                    have hsz1 : (tail1 s2).size ≤ 4096 := hsz _ _ _ hx
                    have HN : Hid (num2 nought s2 = if pre (tail1 s2) 43 = true ∨ pre (tail1 s2) 45 = true then num3 nought (dg1 (tail1 (tail1 s2))) (dg2 (tail1 (tail1 s2))) else num3 nought (dg1 (tail1 s2)) (dg2 (tail1 s2))) := by show _ = _; unfold num2; rw [if_pos ((Bool.or_eq_true _ _).mp he)]
                    go_upto_region 17 with (fail)
                    simp only [tail_is]
                    generalize tail1 s2 = y at *
                    go_cut [75] (fun bv wx => bv = .bool (pre y 43 || pre y 45) ∧ w = wx)
                    case first =>
                      clear HF
                      by_cases hz : 0 < y.size
                      · have q0 : (0 : Int) < (y.size : Int) := by omega
                        have hg := Jv.get_eq y 0 hz
                        have HP : Hid (∀ c, pre y c = (((y.get! 0).toNat : Int) == ((c.toNat : Nat) : Int))) := fun c => pre_get hz
                        generalize y.get! 0 = d at *
                        by_cases hd : (d.toNat : Int) = 43
                        · have hd1 : ((d.toNat : Int) == 43) = true := by simpa using hd
                          go_wp2
                          go_meet
                          exact ⟨by rw [HP.out, HP.out]; simp [hd], rfl⟩
                        · have hd1 : ((d.toNat : Int) == 43) = false := by simpa using hd
                          go_wp2
                          go_meet
                          exact ⟨by rw [HP.out, HP.out]; simp [hd], rfl⟩
                      · have q0 : ¬ (0 : Int) < (y.size : Int) := by omega
                        have HP : Hid (∀ c, pre y c = false) := fun c => pre_nil hz
                        go_wp2
                        go_meet
                        exact ⟨(by first | (rw [HP.out, HP.out]; rfl) | rw [HP.out, HP.out]), rfl⟩
                    case rest =>
                      obtain ⟨rfl, rfl⟩ := hcut
                      obtain ⟨z, hz⟩ : ∃ z, (if pre y 43 = true ∨ pre y 45 = true then tail1 y else y) = z := ⟨_, rfl⟩
                      have HN2 : Hid (num2 nought s2 = num3 nought (dg1 z) (dg2 z)) := by show _ = _; rw [HN.out, ← hz]; split <;> rfl
                      have hzz : z.size ≤ 4096 := by rw [← hz]; split; exact hsz _ _ _ hsz1; exact hsz1
                      have HZ : Hid ((if pre y 43 = true ∨ pre y 45 = true then tail1 y else y) = z) := hz
                      clear HN hz
                      go_upto_if 75 with (fail)
                      go_cut [0] (fun sv wx => sv = .string z ∧ w = wx)
                      case first =>
                        cases hs2 : (pre y 43 || pre y 45) with
                        | true =>
                          have hz1 : (1 : Int) ≤ (y.size : Int) := by have := (Bool.or_eq_true _ _).mp hs2; rcases this with e | e <;> exact Jv.pre_size e
                          go_wp2
                          go_meet
                          exact ⟨by rw [← HZ.out, if_pos ((Bool.or_eq_true _ _).mp hs2)]; rfl, rfl⟩
                        | false =>
                          go_wp2
                          go_meet
                          exact ⟨by rw [← HZ.out, if_neg (by rw [Bool.or_eq_false_iff] at hs2; rw [hs2.1, hs2.2]; simp)], rfl⟩
                      case rest =>
                        obtain ⟨rfl, rfl⟩ := hcut
                        have hr1 := hrun z hzz
                        by_cases hp : dg1 z = emp
                        · have HK : Hid (formN s = 0) := by show _ = _; rw [HF.out, HN2.out]; unfold num3; rw [decide_eq_false (fun e => e.2.1 hp)]; rfl
                          have hp0 : (dg1 z).size = 0 := (dg1_emp z).1 hp
                          rw [hp0] at hr1
                          clear HF HN2 Hp hp hp0
                          go_wp2_with (first | (go_at_call 132; refine (hr1 _).mono ?_; rintro e w1 ⟨rfl, rfl⟩) | fail)
                          go_ret
                          exact ⟨by rw [HK.out]; rfl, rfl⟩
                        · have hp0 : ¬ (dg1 z).size = 0 := fun e => hp ((dg1_emp z).2 e)
                          have hp1 : (((dg1 z).size : Int) == 0) = false := beq_eq_false_iff_ne.2 (by omega)
                          have hp2 : ((dg1 z).size : Int) ≤ (z.size : Int) := by have := hdz z; omega
                          have HD : Hid (z.extract (dg1 z).size z.size = dg2 z) := dg2_is z
                          by_cases hem : dg2 z = emp
                          · have HK : Hid (formN s = 2) := by show _ = _; rw [HF.out, HN2.out]; unfold num3; rw [decide_eq_true (show nought ≠ emp ∧ dg1 z ≠ emp ∧ dg2 z = emp from ⟨Hp.out, hp, hem⟩)]; exact (if_pos rfl).trans (if_neg hne)
                            have he1 : (dg2 z).toList.isEmpty = true := (Jv.emp_iff _).1 hem
                            rw [← HD.out] at he1
                            clear HF HN2 Hp hp hp0 hem HD
                            generalize (dg1 z).size = m at *
                            go_wp2_with (first | (go_at_call 132; refine (hr1 _).mono ?_; rintro e w1 ⟨rfl, rfl⟩) | fail)
                            go_ret
                            exact ⟨by rw [HK.out]; rfl, rfl⟩
                          · have HK : Hid (formN s = 0) := by show _ = _; rw [HF.out, HN2.out]; unfold num3; rw [decide_eq_false (fun e => hem e.2.2)]; rfl
                            have he1 : (dg2 z).toList.isEmpty = false := by simpa using fun e => hem ((Jv.emp_iff _).2 e)
                            rw [← HD.out] at he1
                            clear HF HN2 Hp hp hp0 hem HD
                            generalize (dg1 z).size = m at *
                            go_wp2_with (first | (go_at_call 132; refine (hr1 _).mono ?_; rintro e w1 ⟨rfl, rfl⟩) | fail)
                            go_ret
                            exact ⟨by rw [HK.out]; rfl, rfl⟩
end Go.Proofs
namespace Go.Jv
open Go.RowKit Go.Lib
def ofI (z : Int) : Bool := decide ((48 ≤ z ∧ z ≤ 57) ∨ z = 43 ∨ z = 45 ∨ z = 46 ∨ z = 101 ∨ z = 69)
theorem ofI_byte (c : UInt8) : ofI ((c.toNat : Nat) : Int) = isOfNumber c := by
  rw [Bool.eq_iff_iff]; simp only [ofI, isOfNumber, decide_eq_true_eq]; omega
/-- What the digits ahead of a place spell. -/
def preV (s : ByteArray) (i : Nat) : Nat := decV 0 ((s.data.toList.take i).filter (· != 45))
theorem take_snoc (l : List UInt8) (i : Nat) (h : i < l.length) : l.take (i + 1) = l.take i ++ [l[i]] := by
  rw [List.take_add_one, List.getElem?_eq_getElem h]; rfl
theorem list_at (s : ByteArray) (i : Nat) (h : i < s.size) : ∃ h2 : i < s.data.toList.length, s.data.toList[i] = s.get! i := by
  refine ⟨by rw [← Lib.size_eq]; exact h, ?_⟩
  rw [← Go.Proofs.Jv.get_eq s i h]
  rw [Array.getElem_toList]
  rfl
theorem preV_dash {s : ByteArray} {i : Nat} (h : i < s.size) (hc : s.get! i = 45) : preV s (i + 1) = preV s i := by
  obtain ⟨h2, h3⟩ := list_at s i h
  unfold preV
  rw [take_snoc _ _ h2, List.filter_append, h3, hc]
  simp
theorem preV_dig {s : ByteArray} {i : Nat} (h : i < s.size) (hc : s.get! i ≠ 45) : preV s (i + 1) = preV s i * 10 + ((s.get! i).toNat - 48) := by
  obtain ⟨h2, h3⟩ := list_at s i h
  unfold preV
  rw [take_snoc _ _ h2, List.filter_append, h3, decV_app]
  have : [s.get! i].filter (· != 45) = [s.get! i] := by simp [hc]
  rw [this]; rfl
theorem preV_le (s : ByteArray) (i : Nat) : preV s i ≤ preV s s.size := by
  have e : s.data.toList.take s.size = s.data.toList.take i ++ (s.data.toList.drop i).take s.size := by
    have h1 : s.data.toList.take s.size = s.data.toList := List.take_of_length_le (by rw [← Lib.size_eq]; exact Nat.le_refl _)
    have h2 : (s.data.toList.drop i).take s.size = s.data.toList.drop i := List.take_of_length_le (by rw [List.length_drop, ← Lib.size_eq]; omega)
    rw [h1, h2, List.take_append_drop]
  unfold preV
  rw [e, List.filter_append, decV_app]
  exact decV_ge _ _
/-- A whole number: its bytes are a sign, and digits. -/
theorem plain_bytes {s : ByteArray} (hp : isPlain s = true) {i : Nat} (h : i < s.size) (hc : s.get! i ≠ 45) : 48 ≤ (s.get! i).toNat ∧ (s.get! i).toNat ≤ 57 := by
  have h2 : dg2 (trim s) = emp := by simpa [isPlain] using hp
  have h1 := dgs_list (trim s)
  rw [h2] at h1
  have h1 : (trim s).data.toList = (dg1 (trim s)).data.toList := by rw [h1]; simp [emp]
  have hd := dg1_dig (trim s)
  rw [← h1] at hd
  obtain ⟨h3, h4⟩ := list_at s i h
  have hm : s.get! i ∈ s.data.toList := by rw [← h4]; exact List.getElem_mem h3
  have hx : isDigit (s.get! i) = true := by
    rcases trim_cases s with ⟨r, e1, e2, e3⟩ | ⟨e1, e2⟩
    · rw [e1] at hm
      rcases List.mem_cons.1 hm with e | e
      · exact absurd e hc
      · exact hd _ (by rw [e2]; exact e)
    · rw [e1] at hd
      exact hd _ hm
  simpa [isDigit] using hx
theorem preV_all {s : ByteArray} (hp : isPlain s = true) : preV s s.size = decV 0 (trim s).data.toList := by
  have h2 : dg2 (trim s) = emp := by simpa [isPlain] using hp
  have h1 := dgs_list (trim s)
  rw [h2] at h1
  have h1 : (trim s).data.toList = (dg1 (trim s)).data.toList := by rw [h1]; simp [emp]
  have hd := dg1_dig (trim s)
  rw [← h1] at hd
  have hf : ∀ l : List UInt8, (∀ c ∈ l, isDigit c = true) → l.filter (· != 45) = l := fun l hl => by
    rw [List.filter_eq_self]
    intro c hc
    have := hl c hc
    simp only [bne_iff_ne, ne_eq]
    rintro rfl
    revert this; decide
  have ht : s.data.toList.take s.size = s.data.toList := List.take_of_length_le (by rw [← Lib.size_eq]; exact Nat.le_refl _)
  unfold preV
  rw [ht]
  rcases trim_cases s with ⟨r, e1, e2, e3⟩ | ⟨e1, e2⟩
  · rw [e2] at hd ⊢
    rw [e1, List.filter_cons, hf r hd]
    simp
  · rw [e1] at hd ⊢
    rw [hf _ hd]
theorem number_at (s : ByteArray) (h : isNumber s = true) : 0 < s.size := by
  have h1 := isNumber_dg s h
  have h2 := Go.Proofs.Jv.dg_size (trim s)
  have h3 := Go.Proofs.Jv.trim_size s
  have h4 : 0 < (dg1 (trim s)).size := by
    rw [Lib.size_eq]
    exact List.length_pos_iff.2 h1
  omega
end Go.Jv
namespace Go.Proofs
open Go.RowKit Go.Jv
set_option maxRecDepth 20000 in
set_option maxHeartbeats 8000000 in
theorem Tryz.dsNumber {α : Type} {w : World} {p : Nat} {t : ByteArray} {o : Nat} {y : α × Nat} (h : Tryz.DS w p t o (.ok y : R (α × Nat))) :
    Calls Tryz.prog 81 #[.pointer (some ⟨p, 0, none⟩)] w fun e w' => Tryz.Vd w p t o (number t y.2) e w' := by
  obtain ⟨i, er, c0, c1, -, -, fz, hi, hs, -, hy, -⟩ := h.place
  obtain ⟨e1, -⟩ := hy y rfl
  rw [← e1] at c1 hi
  have f1 := fz 1
  have HW : Hid (number t y.2 = if isNumber (sub t y.2 (run isOfNumber t y.2)) = true then (match numOf (sub t y.2 (run isOfNumber t y.2)) with | some n => .ok (.int n, run isOfNumber t y.2) | none => .bad y.2 eNumber) else .bad y.2 eSyntax) := rfl
  have hrl := Jv.run_le isOfNumber t y.2 hi
  obtain ⟨yv, p0⟩ := y
  have H0 : Hid (Tryz.DS w p t o (.ok (yv, p0) : R (α × Nat))) := h
  obtain ⟨E, hE⟩ : ∃ E, run isOfNumber t p0 = E := ⟨_, rfl⟩
  simp only [hE] at HW hrl
  have HE : Hid (run isOfNumber t p0 = E) := hE
  clear hy fz e1 h hE
  go_enter Tryz.func81, Tryz.ntmps81
  go_wp2
  go_loopg [] (t.size - p0) (fun k wr => ∃ q : Nat, k = t.size - q ∧ p0 ≤ q ∧ q ≤ t.size ∧ Hid (run isOfNumber t q = E) ∧ Hid (Tryz.DS wr p t o (.ok (yv, q) : R (α × Nat))) ∧ Hid (Wk p w wr) ∧ Hid (wr.heap.size = w.heap.size))
  case atStart => exact ⟨p0, rfl, Nat.le_refl _, hi, HE.out, H0.out, Wk.refl _ _, rfl⟩
  case round =>
    obtain ⟨q, hk, hpq, hq, hR, hS, hW, hz⟩ := hrel
    clear H0 c0 c1 f1
    have HK : Hid (gk = t.size - q) := hk
    clear hk
    have k1 : Hid (∀ W : World, W.heap = wr.heap → Calls Tryz.prog 58 #[.pointer (some ⟨p, 0, none⟩)] W fun e w' => e = .returned (.int .i64 (byteJ t (.ok (yv, q) : R (α × Nat)))) ∧ ∃ n, w' = W.drewN n) := fun W h => Tryz.dsNext (hS.out.heap (by rw [h]))
    obtain ⟨i2, er2, c0, c1, -, -, fz, -, -, -, hy, -⟩ := hS.out.place
    obtain ⟨e1, -⟩ := hy _ rfl
    have e1 : q = i2 := e1
    subst e1
    have f1 := fz 1
    clear hy fz
    have hnum : ofI (byteJ t (.ok (yv, q) : R (α × Nat))) = decide (q < t.size ∧ isOfNumber (t.get! q) = true) := by
      by_cases hl : q < t.size
      · have hb : byteJ t (.ok (yv, q) : R (α × Nat)) = (((t.get! q).toNat : Nat) : Int) := if_pos hl
        rw [hb, ofI_byte]
        cases hx : isOfNumber (t.get! q) with
        | true => exact (decide_eq_true ⟨hl, rfl⟩).symm
        | false => exact (decide_eq_false (fun e => by cases e.2)).symm
      · have hb : byteJ t (.ok (yv, q) : R (α × Nat)) = -1 := if_neg hl
        rw [hb]
        exact (decide_eq_false (fun e => hl e.1)).symm
    generalize byteJ t (.ok (yv, q) : R (α × Nat)) = z at k1 hnum
    have kd : Hid (∀ W, Calls Tryz.prog 79 #[.int .i64 z] W fun en w' => en = .returned (.bool (dgI z)) ∧ W = w') := fun W => (Tryz.digitI_any z W).mono fun e w' h => ⟨h.1, h.2.symm⟩
    have HNM : Hid (ofI z = decide (q < t.size ∧ isOfNumber (t.get! q) = true)) := hnum
    clear hnum
    go_upto_region 4 with (first | (go_at_call 58; refine (k1.out _ (by rfl)).mono ?_; clear k1; rintro e w1 ⟨rfl, n1, rfl⟩) | (go_at_call 79; refine (kd.out _).mono ?_; clear kd; rintro e w2 ⟨rfl, rfl⟩) | fail)
    go_cut [4, 5, 39] from 14 to 46 (fun _ _ bv wx => bv = .bool (!ofI z) ∧ wr.drewN n1 = wx)
    case first =>
      go_wp2
      all_goals
        go_meet
        refine ⟨congrArg Value.bool ?_, rfl⟩
        rw [Bool.eq_iff_iff]
        simp [ofI]
        try simp only [dgI, decide_eq_true_eq] at *
        try omega
    case rest =>
      obtain ⟨rfl, rfl⟩ := hcut
      have HN := HNM.out
      by_cases hlt : q < t.size ∧ isOfNumber (t.get! q) = true
      · rw [decide_eq_true hlt] at HN
        rw [HN]
        have HS : Hid (run isOfNumber t (q + 1) = E) := (Jv.run_step isOfNumber t q hlt.1 hlt.2).symm.trans hR.out
        have HS2 : Hid (∀ (W : World) (z : Int), W.heap = wr.heap → z = (q : Int) + 1 → Tryz.DS (W.setCell ⟨p, 1, none⟩ (.int .i64 z)) p t o (.ok (yv, q + 1) : R (α × Nat))) := fun W z e hz => (hS.out.heap (w' := W) (by rw [e])).move0 z (q + 1) (by omega) hlt.1 yv
        have hl1 := hlt.1
        clear hlt HN HNM
        go_wp2
        go_roundg (t.size - (q + 1))
        case measure => have h1 : gk = t.size - q := HK.out; omega
        case rel => exact ⟨q + 1, rfl, by omega, hl1, HS.out, HS2.out _ _ rfl rfl, (by refine Wk.setCell ?_ _ _ _; exact Wk.same hW.out rfl rfl rfl rfl), by have h1 := hz.out; show _ = _; simpa using h1⟩
      · rw [decide_eq_false hlt] at HN
        rw [HN]
        have hst : run isOfNumber t q = q := Jv.run_stop isOfNumber t q fun e => by
          cases hx : isOfNumber (t.get! q) with
          | true => exact absurd ⟨e, hx⟩ hlt
          | false => rfl
        have hqE : q = E := hst.symm.trans hR.out
        subst hqE
        clear hlt hst HE HN HNM
        have HA : Hid (∀ (W : World) (v : V), W.heap = wr.heap → Tryz.DS W p t o (.ok (v, q) : R (V × Nat))) := fun W v e => (hS.out.heap (w' := W) (by rw [e])).val v
        have HB : Hid (∀ (W : World), W.heap = wr.heap → W.os = wr.os → W.tape = wr.tape → W.output = wr.output → Wk p w W) := fun W e1 e2 e3 e4 => Wk.same hW.out e1 e2 e3 e4
        have HV : Hid (∀ (W : World) (v : V) (ob : Obj), W.heap = wr.heap → W.os = wr.os → W.tape = wr.tape → W.output = wr.output → number t p0 = .ok (v, q) → (w.heap.size ≤ W.heap.size → Tryz.Td (W.alloc ob) (fun g => w.heap.size ≤ g) v W.heap.size) → Tryz.Vd w p t o (number t p0) (.returned (.pointer (some ⟨wr.heap.size, 0, none⟩))) (W.alloc ob)) := fun W v ob e1 e2 e3 e4 h5 h6 => by
          have h7 := Tryz.vd_new (ob := ob) h5 (HA.out W v e1) (HB.out W e1 e2 e3 e4) h6
          rw [e1] at h7
          exact h7
        have kf : Hid (∀ (k : Nat), k ≠ 0 → ∀ W : World, W.heap = wr.heap → Calls Tryz.prog 59 #[.pointer (some ⟨p, 0, none⟩), .int .i64 p0, .int .i64 k] W fun e w' => (∃ v, e = .returned v) ∧ Tryz.DS w' p t o (.bad p0 k : R (V × Nat)) ∧ Wk p W w' ∧ w'.heap.size = W.heap.size) := fun k hk W e => Tryz.dsFail V (hS.out.heap (w' := W) (by rw [e])) p0 k hk
        have q0 : (0 : Int) ≤ (p0 : Int) := by omega
        have q1 : (p0 : Int) ≤ (q : Int) := by omega
        have q2 : (q : Int) ≤ (t.size : Int) := by omega
        have HX : Hid (sub t p0 q = t.extract p0 q) := rfl
        rw [HX.out] at HW
        have hsz : (t.extract p0 q).size ≤ 4096 := by rw [ByteArray.size_extract]; omega
        have kF : Hid (∀ W, Calls Tryz.prog 110 #[.string (t.extract p0 q)] W fun e w' => e = .returned (.int .i64 (formN (t.extract p0 q))) ∧ W = w') := fun W => (Tryz.form_any _ hsz W).mono fun e w' h => ⟨h.1, h.2.symm⟩
        clear HX
        go_upto_region 6 with (fail)
        go_quiet (fail)
        generalize t.extract p0 q = s at *
        have kF1 := kF.out
        clear kF
        by_cases hn : isNumber s = true
        · have HX : Hid (number t p0 = match numOf s with | some n => .ok (.int n, q) | none => .bad p0 eNumber) := HW.out.trans (if_pos hn)
          by_cases hp : isPlain s = true
          · have hfm : formN s = 1 := by unfold formN; rw [if_pos hn, if_pos hp]
            have hz0 := number_at s hn
            have HN2 := numOf_plain hn hp
            rw [← preV_all hp, pre_get hz0] at HN2
            have HG : Hid (9007199254740991 < preV s s.size → number t p0 = .bad p0 23) := fun h => (by rw [HX.out, HN2, if_neg (by omega)]; rfl)
            have HO : Hid (∀ z : Int, preV s s.size ≤ 9007199254740991 → (if (((s.get! 0).toNat : Int) == (((45 : UInt8).toNat : Nat) : Int)) = true then -((preV s s.size : Nat) : Int) else ((preV s s.size : Nat) : Int)) = z → number t p0 = .ok (.int z, q)) := fun z h e => (by rw [HX.out, HN2, if_pos h, e])
            have HPB : Hid (∀ i, i < s.size → s.get! i ≠ 45 → 48 ≤ (s.get! i).toNat ∧ (s.get! i).toNat ≤ 57) := fun i h1 h2 => plain_bytes hp h1 h2
            have HPD : Hid (∀ i, i < s.size → s.get! i = 45 → preV s (i + 1) = preV s i) := fun i h1 h2 => preV_dash h1 h2
            have HPE : Hid (∀ i, i < s.size → s.get! i ≠ 45 → preV s (i + 1) = preV s i * 10 + ((s.get! i).toNat - 48)) := fun i h1 h2 => preV_dig h1 h2
            have HPL : Hid (∀ i, preV s i ≤ preV s s.size) := preV_le s
            have hp0 : preV s 0 = 0 := rfl
            have kf1 := kf.out 23 (by decide)
            rw [hfm] at kF1
            clear hfm kf HX HW HN2 hn hp
            go_wp2_with (first | (go_at_call 110; refine (kF1 _).mono ?_; clear kF1; rintro e w2 ⟨rfl, rfl⟩) | fail)
            go_loopw [8, 9] (fun nv iv wr2 => ∃ i n m : Nat, nv = .int .i64 n ∧ iv = .int .i64 i ∧ i ≤ s.size ∧ Hid (preV s i = n) ∧ n ≤ 90071992547409919 ∧ wr2 = wr.drewN m) (fun _ iv _ => s.size - (intOf iv).toNat)
            case atStart => exact ⟨0, 0, _, rfl, rfl, Nat.zero_le _, hp0, Nat.zero_le _, rfl⟩
            case round =>
              obtain ⟨i, n, m, rfl, rfl, hi2, hPV, hn2, rfl⟩ := hrel
              clear hp0
              by_cases hzm : n ≤ 9007199254740991
              · have r3 : (n : Int) ≤ 9007199254740991 := by omega
                by_cases hil : i < s.size
                · have r1 : (i : Int) < (s.size : Int) := by omega
                  have r0 : (0 : Int) ≤ (i : Int) := by omega
                  have hg := Jv.get_eq s i hil
                  have b1 := HPB.out i hil
                  have b2 := HPD.out i hil
                  have b3 := HPE.out i hil
                  generalize s.get! i = c at *
                  by_cases hc : c = 45
                  · have HPV : Hid (preV s (i + 1) = n) := (b2 hc).trans hPV.out
                    have r2 : ((c.toNat : Int) != 45) = false := by rw [hc]; rfl
                    clear hc b1 b2 b3
                    go_wp2
                    go_roundw
                    case rel => exact ⟨i + 1, n, _, rfl, by simp, hil, HPV.out, hn2, rfl⟩
                    case measure => simp [intOf]; omega
                  · have HPV : Hid (preV s (i + 1) = n * 10 + (c.toNat - 48)) := (by have h1 := b3 hc; rw [hPV.out] at h1; exact h1)
                    obtain ⟨b4, b5⟩ := b1 hc
                    have r2 : ((c.toNat : Int) != 45) = true := by
                      simp only [bne_iff_ne, ne_eq]
                      omega
                    have hwc : wrap64 (c.toNat : Int) = (c.toNat : Int) := by unfold wrap64; omega
                    clear hc b1 b2 b3
                    go_wp2
                    go_roundw
                    case rel => exact ⟨i + 1, n * 10 + (c.toNat - 48), _, congrArg (Value.int .i64) (by omega), by simp, hil, HPV.out, by omega, rfl⟩
                    case measure => simp [intOf]; omega
                · have r1 : ¬ (i : Int) < (s.size : Int) := by omega
                  have r4 : ¬ (9007199254740991 : Int) < (n : Int) := by omega
                  obtain rfl : i = s.size := by omega
                  have r5 : (0 : Int) < (s.size : Int) := by omega
                  have hg := Jv.get_eq s 0 hz0
                  have HO1 := fun z => HO.out z (by rw [hPV.out]; exact hzm)
                  rw [hPV.out] at HO1
                  by_cases hc : s.get! 0 = 45
                  · have HZ : Hid (number t p0 = .ok (.int (-(n : Int)), q)) := HO1 _ (by rw [hc]; rfl)
                    have r6 : (((s.get! 0).toNat : Int) == 45) = true := by rw [hc]; rfl
                    generalize s.get! 0 = c at *
                    clear HO HO1 HG HPB HPD HPE HPL hc
                    go_wp2
                    go_ret
                    exact HV.out _ (.int (-(n : Int))) _ rfl rfl rfl rfl HZ.out fun h => ⟨⟨h, by unfold maxInt; omega, by unfold maxInt; omega⟩, by first | exact Jv.Vb.new _ 2 false (-(n : Int)) emp Jv.nilS Jv.nilS _ | (rw [show (-(n : Int)) = 0 - (n : Int) by omega]; exact Jv.Vb.new _ 2 false (0 - (n : Int)) emp Jv.nilS Jv.nilS _)⟩
                  · have r6 : (((s.get! 0).toNat : Int) == 45) = false := by
                      simp only [beq_eq_false_iff_ne, ne_eq]
                      exact fun e => hc (UInt8.toNat_inj.1 (by show (s.get! 0).toNat = 45; omega))
                    have HZ : Hid (number t p0 = .ok (.int (n : Int), q)) := HO1 _ (by
                      have : (((s.get! 0).toNat : Int) == (((45 : UInt8).toNat : Nat) : Int)) = false := r6
                      rw [this]; rfl)
                    generalize s.get! 0 = c at *
                    clear HO HO1 HG HPB HPD HPE HPL hc
                    go_wp2
                    go_ret
                    exact HV.out _ (.int (n : Int)) _ rfl rfl rfl rfl HZ.out fun h => ⟨⟨h, by unfold maxInt; omega, by unfold maxInt; omega⟩, Jv.Vb.new _ 2 false (n : Int) emp Jv.nilS Jv.nilS _⟩
              · have r3 : ¬ (n : Int) ≤ 9007199254740991 := by omega
                have r4 : (9007199254740991 : Int) < (n : Int) := by omega
                have HY : Hid (number t p0 = .bad p0 23) := HG.out (by have h1 := HPL.out i; rw [hPV.out] at h1; omega)
                clear HO HG HPB HPD HPE HPL
                by_cases hil : i < s.size
                · have r1 : (i : Int) < (s.size : Int) := by omega
                  go_wp2_with (first | (go_at_call 59; refine (kf1 _ (by rfl)).mono ?_; clear kf1; rintro e w2 ⟨⟨v, rfl⟩, G1, G2, G3⟩) | fail)
                  go_ret
                  exact Tryz.vd_none HY.out G1 ((HB.out _ (by rfl) (by rfl) (by rfl) (by rfl)).trans G2) none
                · have r1 : ¬ (i : Int) < (s.size : Int) := by omega
                  go_wp2_with (first | (go_at_call 59; refine (kf1 _ (by rfl)).mono ?_; clear kf1; rintro e w2 ⟨⟨v, rfl⟩, G1, G2, G3⟩) | fail)
                  go_ret
                  exact Tryz.vd_none HY.out G1 ((HB.out _ (by rfl) (by rfl) (by rfl) (by rfl)).trans G2) none
          · have hp : isPlain s = false := by simpa using hp
            have hfm : formN s = 2 := by unfold formN; rw [if_pos hn, hp]; rfl
            have HY : Hid (number t p0 = .bad p0 23) := (by show _ = _; rw [HX.out, numOf_other hn hp]; rfl)
            have kf1 := kf.out 23 (by decide)
            rw [hfm] at kF1
            clear hfm kf HX HW
            go_wp2_with (first | (go_at_call 110; refine (kF1 _).mono ?_; clear kF1; rintro e w2 ⟨rfl, rfl⟩) | fail)
            go_loopw [8, 9] (fun nv iv wr2 => (∃ z : Int, nv = .int .i64 z) ∧ (∃ i : Nat, iv = .int .i64 i ∧ i ≤ s.size) ∧ ∃ m, wr2 = wr.drewN m) (fun _ iv _ => s.size - (intOf iv).toNat)
            case atStart => exact ⟨⟨0, rfl⟩, ⟨0, rfl, Nat.zero_le _⟩, _, rfl⟩
            case round =>
              obtain ⟨⟨z, rfl⟩, ⟨i, rfl, hi2⟩, m, rfl⟩ := hrel
              by_cases hil : i < s.size
              · have r1 : (i : Int) < (s.size : Int) := by omega
                have r0 : (0 : Int) ≤ (i : Int) := by omega
                have hg := Jv.get_eq s i hil
                generalize s.get! i = c at *
                by_cases hzm : z ≤ 9007199254740991
                · by_cases hc : c = 45
                  · have r2 : ((c.toNat : Int) != 45) = false := by rw [hc]; rfl
                    clear hc
                    go_wp2
                    go_roundw
                    case rel => exact ⟨⟨_, rfl⟩, ⟨i + 1, by simp, hil⟩, _, rfl⟩
                    case measure => simp [intOf]; omega
                  · have r2 : ((c.toNat : Int) != 45) = true := by
                      simp only [bne_iff_ne, ne_eq]
                      exact fun e => hc (UInt8.toNat_inj.1 (by show c.toNat = 45; omega))
                    clear hc
                    go_wp2
                    go_roundw
                    case rel => exact ⟨⟨_, rfl⟩, ⟨i + 1, by simp, hil⟩, _, rfl⟩
                    case measure => simp [intOf]; omega
                · go_wp2_with (first | (go_at_call 59; refine (kf1 _ (by rfl)).mono ?_; clear kf1; rintro e w2 ⟨⟨v, rfl⟩, G1, G2, G3⟩) | fail)
                  go_ret
                  exact Tryz.vd_none HY.out G1 ((HB.out _ (by rfl) (by rfl) (by rfl) (by rfl)).trans G2) none
              · have r1 : ¬ (i : Int) < (s.size : Int) := by omega
                go_wp2_with (first | (go_at_call 59; refine (kf1 _ (by rfl)).mono ?_; clear kf1; rintro e w2 ⟨⟨v, rfl⟩, G1, G2, G3⟩) | fail)
                go_ret
                exact Tryz.vd_none HY.out G1 ((HB.out _ (by rfl) (by rfl) (by rfl) (by rfl)).trans G2) none
        · have hfm : formN s = 0 := by unfold formN; rw [if_neg hn]
          have HX : Hid (number t p0 = .bad p0 20) := HW.out.trans (if_neg hn)
          have kf1 := kf.out 20 (by decide)
          rw [hfm] at kF1
          clear hfm hn kf HW
          go_wp2_with (first | (go_at_call 110; refine (kF1 _).mono ?_; clear kF1; rintro e w2 ⟨rfl, rfl⟩) | (go_at_call 59; refine (kf1 _ (by rfl)).mono ?_; clear kf1; rintro e w2 ⟨⟨v, rfl⟩, G1, G2, G3⟩) | fail)
          go_ret
          exact Tryz.vd_none HX.out G1 ((HB.out _ (by rfl) (by rfl) (by rfl) (by rfl)).trans G2) none
end Go.Proofs
