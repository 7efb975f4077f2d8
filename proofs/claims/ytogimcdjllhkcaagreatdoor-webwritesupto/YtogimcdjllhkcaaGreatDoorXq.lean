/-
  Texts: all of a kind, small letters, numbers.
-/
import Derived.Test.YtogimcdjllhkcaaGreatDoorXj
import Derived.Test.YtogimcdjllhkcaaGreatDoorXl
namespace Go.Wb
theorem at_text {l : List UInt8} {i : Nat} (_hi : i < l.length) (h : i < (⟨l.toArray⟩ : ByteArray).size) : (⟨l.toArray⟩ : ByteArray)[i]'h = l[i] := by
  show l.toArray[i] = _
  simp
theorem text_size (l : List UInt8) : (⟨l.toArray⟩ : ByteArray).size = l.length := by show l.toArray.size = _; simp
theorem all_take {l : List UInt8} {p : UInt8 → Bool} {i : Nat} (hi : i < l.length) (h : (l.take i).all p = true) (hp : p l[i] = true) : (l.take (i + 1)).all p = true := by
  rw [List.take_add_one, List.getElem?_eq_getElem hi, List.all_append, h]
  simp [hp]
theorem all_not {l : List UInt8} {p : UInt8 → Bool} {i : Nat} (hi : i < l.length) (hp : p l[i] = false) : l.all p = false := by
  rw [Bool.eq_false_iff]
  intro h
  have := List.all_eq_true.1 h l[i] (List.getElem_mem hi)
  rw [hp] at this; cases this
end Go.Wb
namespace Go.Proofs
open Go.RowKit Go.Wi Go.Wb
set_option maxRecDepth 20000 in
set_option maxHeartbeats 400000 in
/-- Are all bytes of a text digits? -/
theorem Tryz.allDigits_any (l : List UInt8) (hl : l.length ≤ 9223372036854775807) (w : World) :
    Calls Tryz.prog 42 #[.string ⟨l.toArray⟩, .func (.func 58) #[] #[]] w fun e w' => e = .returned (.bool (l.all dig)) ∧ w' = w := by
  have hsz := text_size l
  go_enter Tryz.func42, Tryz.ntmps42
  go_wp2
  go_loopw [5, 8] (fun _ iv wr => ∃ i : Nat, iv = .int .i64 i ∧ i ≤ l.length ∧ (l.take i).all dig = true ∧ wr = w) (fun _ iv _ => l.length - (intOf iv).toNat)
  case atStart => exact ⟨0, rfl, Nat.zero_le _, by simp, rfl⟩
  case round =>
    obtain ⟨i, rfl, hi, ha, rfl⟩ := hrel
    by_cases hlt : i < l.length
    · have q : (i : Int) < (l.length : Int) := by omega
      have hix := at_text hlt
      have kd := Tryz.isDigit_any l[i] wr
      have HT : Hid ((l.take i).all dig = true) := ha
      clear ha
      cases hd : dig l[i] with
      | true =>
        rw [hd] at kd
        have HN : Hid ((l.take (i + 1)).all dig = true) := all_take hlt HT.out hd
        clear hd
        go_wp2_with (first | (go_at_call 58; refine kd.mono ?_; clear kd; rintro e w1 ⟨rfl, rfl⟩) | fail)
        go_roundw
        case rel => exact ⟨i + 1, by simp, by omega, HN.out, trivial⟩
        case measure => simp [intOf]; omega
      | false =>
        rw [hd] at kd
        have HN : Hid (l.all dig = false) := all_not hlt hd
        clear hd
        go_wp2_with (first | (go_at_call 58; refine kd.mono ?_; clear kd; rintro e w1 ⟨rfl, rfl⟩) | fail)
        go_ret
        exact ⟨by rw [HN.out]; rfl, rfl⟩
    · have q : ¬ (i : Int) < (l.length : Int) := by omega
      have e : l.all dig = true := by rw [List.take_of_length_le (by omega)] at ha; exact ha
      have HE : Hid (l.all dig = true) := e
      clear e ha
      go_wp2
      go_ret
      exact ⟨by rw [HE.out]; rfl, rfl⟩
set_option maxHeartbeats 400000 in
theorem Tryz.isNumber_any (l : List UInt8) (hl : l.length ≤ 9223372036854775807) (w : World) :
    Calls Tryz.prog 124 #[.string ⟨l.toArray⟩] w fun e w' => e = .returned (.bool (isNumber l)) ∧ w' = w := by
  have ka := Tryz.allDigits_any l hl w
  by_cases h0 : l = []
  · subst h0
    go_enter Tryz.func124, Tryz.ntmps124
    go_wp2
    go_ret
    exact ⟨rfl, rfl⟩
  · have q : l.isEmpty = false := by simpa using h0
    have e : isNumber l = l.all dig := by simp [isNumber, q]
    have HE : Hid (isNumber l = l.all dig) := e
    clear e h0
    go_enter Tryz.func124, Tryz.ntmps124
    go_wp2_with (first | (go_at_call 42; refine ka.mono ?_; clear ka; rintro e w1 ⟨rfl, rfl⟩) | fail)
    go_ret
    exact ⟨by rw [HE.out]; rfl, rfl⟩
set_option maxRecDepth 20000 in
set_option maxHeartbeats 400000 in
theorem Tryz.numberOf_any {T : TypeId} {w : World} {own : Nat → Prop} {b : Nat} {m : Msg} (h : Tryz.Ms T w own b m) (hm : m.most ≤ 999999999) (l : List UInt8) (hl : l.length ≤ 9223372036854775807) (hd : l.all dig = true) :
    Calls Tryz.prog 125 #[.pointer (some ⟨b, 0, none⟩), .string ⟨l.toArray⟩] w fun e w' => e = .returned (.int .i64 (numberOf m.most l : Nat)) ∧ w' = w := by
  have hsz := text_size l
  have HH : Hid _ := h
  clear h
  go_enter Tryz.func125, Tryz.ntmps125
  go_wp2
  go_loopw [5, 6, 9] (fun nv _ iv wr => ∃ i : Nat, iv = .int .i64 i ∧ i ≤ l.length ∧ nv = .int .i64 (numberOf m.most (l.take i) : Nat) ∧ wr = w) (fun _ _ iv _ => l.length - (intOf iv).toNat)
  case atStart => exact ⟨0, rfl, Nat.zero_le _, rfl, rfl⟩
  case round =>
    obtain ⟨i, rfl, hi, rfl, rfl⟩ := hrel
    by_cases hlt : i < l.length
    · have q : (i : Int) < (l.length : Int) := by omega
      have hix := at_text hlt
      have hc := List.all_eq_true.1 hd l[i] (List.getElem_mem hlt)
      obtain ⟨h9, h48⟩ := dig_sub hc
      have HN : Hid (numberOf m.most (l.take (i + 1)) = grown m.most (numberOf m.most (l.take i)) 10 (l[i].toNat - 48)) := (by
        show numberOf m.most (l.take (i + 1)) = _
        unfold numberOf
        rw [List.take_add_one, List.getElem?_eq_getElem hlt, List.foldl_append]
        rfl)
      clear hc
      have hc8 := toNat_lt l[i]
      generalize numberOf m.most (l.take i) = n at *
      have kg := Tryz.grown_any HH.out n 10 (l[i].toNat - 48) hm (by omega) (by omega)
      obtain ⟨d, hd2⟩ : ∃ d : Nat, l[i].toNat - 48 = d := ⟨_, rfl⟩
      have hde : ((l[i].toNat : Int) - 48) = (d : Int) := by omega
      rw [hd2] at kg HN
      clear hd2
      go_wp2_with (first | (go_at_call 129; refine kg.mono ?_; clear kg; rintro e w1 ⟨rfl, rfl⟩) | fail)
      go_roundw
      case rel => exact ⟨i + 1, by simp, by omega, by rw [HN.out], trivial⟩
      case measure => simp [intOf]; omega
    · have q : ¬ (i : Int) < (l.length : Int) := by omega
      have HE : Hid (l.take i = l) := List.take_of_length_le (by omega)
      go_wp2
      go_ret
      exact ⟨by rw [HE.out]; rfl, rfl⟩
end Go.Proofs
