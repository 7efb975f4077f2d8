/-
  Laid together by packg.py of Yi.
-/
import Derived.Test.YtjiidkkmnlcpcaaGreatDoorPXn
import Derived.Test.YtjiidkkmnlcpcaaGreatDoorPXu
namespace Go.Proofs
open Go.RowKit Go.Wi Go.Wb
set_option maxRecDepth 20000 in
set_option maxHeartbeats 400000 in
/-- Are all bytes of a text tokits? -/
theorem Tryz.allTok_any (l : List UInt8) (hl : l.length ≤ 9223372036854775807) (w : World) :
    Calls Tryz.prog 81 #[.string ⟨l.toArray⟩, .func (.func 82) #[] #[]] w fun e w' => e = .returned (.bool (l.all tok)) ∧ w' = w := by
  have hsz := text_size l
  go_enter Tryz.func81, Tryz.ntmps81
  go_wp2
  go_loopw [5, 8] (fun _ iv wr => ∃ i : Nat, iv = .int .i64 i ∧ i ≤ l.length ∧ (l.take i).all tok = true ∧ wr = w) (fun _ iv _ => l.length - (intOf iv).toNat)
  case atStart => exact ⟨0, rfl, Nat.zero_le _, by simp, rfl⟩
  case round =>
    obtain ⟨i, rfl, hi, ha, rfl⟩ := hrel
    by_cases hlt : i < l.length
    · have q : (i : Int) < (l.length : Int) := by omega
      have hix := at_text hlt
      have kd := Tryz.isTokenByte_any l[i] wr
      have HT : Hid ((l.take i).all tok = true) := ha
      clear ha
      cases hd : tok l[i] with
      | true =>
        rw [hd] at kd
        have HN : Hid ((l.take (i + 1)).all tok = true) := all_take hlt HT.out hd
        clear hd
        go_wp2_with (first | (go_at_call 82; refine kd.mono ?_; clear kd; rintro e w1 ⟨rfl, rfl⟩) | fail)
        go_roundw
        case rel => exact ⟨i + 1, by simp, by omega, HN.out, trivial⟩
        case measure => simp [intOf]; omega
      | false =>
        rw [hd] at kd
        have HN : Hid (l.all tok = false) := all_not hlt hd
        clear hd
        go_wp2_with (first | (go_at_call 82; refine kd.mono ?_; clear kd; rintro e w1 ⟨rfl, rfl⟩) | fail)
        go_ret
        exact ⟨by rw [HN.out]; rfl, rfl⟩
    · have q : ¬ (i : Int) < (l.length : Int) := by omega
      have e : l.all tok = true := by rw [List.take_of_length_le (by omega)] at ha; exact ha
      have HE : Hid (l.all tok = true) := e
      clear e ha
      go_wp2
      go_ret
      exact ⟨by rw [HE.out]; rfl, rfl⟩
set_option maxRecDepth 20000 in
set_option maxHeartbeats 400000 in
/-- Are all bytes of a text txtits? -/
theorem Tryz.allTxt_any (l : List UInt8) (hl : l.length ≤ 9223372036854775807) (w : World) :
    Calls Tryz.prog 81 #[.string ⟨l.toArray⟩, .func (.func 84) #[] #[]] w fun e w' => e = .returned (.bool (l.all txt)) ∧ w' = w := by
  have hsz := text_size l
  go_enter Tryz.func81, Tryz.ntmps81
  go_wp2
  go_loopw [5, 8] (fun _ iv wr => ∃ i : Nat, iv = .int .i64 i ∧ i ≤ l.length ∧ (l.take i).all txt = true ∧ wr = w) (fun _ iv _ => l.length - (intOf iv).toNat)
  case atStart => exact ⟨0, rfl, Nat.zero_le _, by simp, rfl⟩
  case round =>
    obtain ⟨i, rfl, hi, ha, rfl⟩ := hrel
    by_cases hlt : i < l.length
    · have q : (i : Int) < (l.length : Int) := by omega
      have hix := at_text hlt
      have kd := Tryz.isTextByte_any l[i] wr
      have HT : Hid ((l.take i).all txt = true) := ha
      clear ha
      cases hd : txt l[i] with
      | true =>
        rw [hd] at kd
        have HN : Hid ((l.take (i + 1)).all txt = true) := all_take hlt HT.out hd
        clear hd
        go_wp2_with (first | (go_at_call 84; refine kd.mono ?_; clear kd; rintro e w1 ⟨rfl, rfl⟩) | fail)
        go_roundw
        case rel => exact ⟨i + 1, by simp, by omega, HN.out, trivial⟩
        case measure => simp [intOf]; omega
      | false =>
        rw [hd] at kd
        have HN : Hid (l.all txt = false) := all_not hlt hd
        clear hd
        go_wp2_with (first | (go_at_call 84; refine kd.mono ?_; clear kd; rintro e w1 ⟨rfl, rfl⟩) | fail)
        go_ret
        exact ⟨by rw [HN.out]; rfl, rfl⟩
    · have q : ¬ (i : Int) < (l.length : Int) := by omega
      have e : l.all txt = true := by rw [List.take_of_length_le (by omega)] at ha; exact ha
      have HE : Hid (l.all txt = true) := e
      clear e ha
      go_wp2
      go_ret
      exact ⟨by rw [HE.out]; rfl, rfl⟩
end Go.Proofs
namespace Go.Wb
def isTok (l : List UInt8) : Bool := !l.isEmpty && l.all tok
def isVal (l : List UInt8) : Bool := l.all txt && (trim l == l)
end Go.Wb
namespace Go.Proofs
open Go.RowKit Go.Wi Go.Wb
set_option maxHeartbeats 400000 in
theorem Tryz.isToken_any (l : List UInt8) (hl : l.length ≤ 9223372036854775807) (w : World) :
    Calls Tryz.prog 51 #[.string ⟨l.toArray⟩] w fun e w' => e = .returned (.bool (isTok l)) ∧ w' = w := by
  have ka := Tryz.allTok_any l hl w
  by_cases h0 : l = []
  · subst h0
    go_enter Tryz.func51, Tryz.ntmps51
    go_wp2
    go_ret
    exact ⟨rfl, rfl⟩
  · have q : l.isEmpty = false := by simpa using h0
    have e : isTok l = l.all tok := by simp [isTok, q]
    have HE : Hid (isTok l = l.all tok) := e
    clear e h0
    go_enter Tryz.func51, Tryz.ntmps51
    go_wp2_with (first | (go_at_call 81; refine ka.mono ?_; clear ka; rintro e w1 ⟨rfl, rfl⟩) | fail)
    go_ret
    exact ⟨by rw [HE.out]; rfl, rfl⟩
set_option maxHeartbeats 400000 in
theorem Tryz.isValue_any (l : List UInt8) (hl : l.length ≤ 9223372036854775807) (w : World) :
    Calls Tryz.prog 53 #[.string ⟨l.toArray⟩] w fun e w' => e = .returned (.bool (isVal l)) ∧ Below w.heap.size w w' := by
  have ka := Tryz.allTxt_any l hl w
  have kt := Tryz.trim_any l hl w
  cases h0 : l.all txt with
  | false =>
    have HE : Hid (isVal l = false) := (by show isVal l = false; simp [isVal, h0])
    rw [h0] at ka
    clear h0
    go_enter Tryz.func53, Tryz.ntmps53
    go_wp2_with (first | (go_at_call 81; refine ka.mono ?_; clear ka; rintro e w1 ⟨rfl, rfl⟩) | fail)
    go_ret
    exact ⟨by rw [HE.out]; rfl, Below.refl _ _⟩
  | true =>
    have HE : Hid (isVal l = (trim l == l)) := (by show isVal l = _; simp [isVal, h0])
    rw [h0] at ka
    clear h0
    generalize trim l = t at *
    go_enter Tryz.func53, Tryz.ntmps53
    go_wp2_with (first | (go_at_call 81; refine ka.mono ?_; clear ka; rintro e w1 ⟨rfl, rfl⟩) | (go_at_call 85; refine kt.mono ?_; clear kt; rintro e w1 ⟨rfl, hb⟩) | fail)
    go_ret
    refine ⟨by rw [HE.out]; rfl, hb⟩
end Go.Proofs
