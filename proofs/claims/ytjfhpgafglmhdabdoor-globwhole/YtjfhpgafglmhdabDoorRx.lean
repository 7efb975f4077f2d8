/-
  THE DOCUMENT'S GLOB: 'Front', 'Literal', 'String', walked.
-/
import Derived.Test.YtjfhpgafglmhdabDoorRw
import Derived.Test.YtjfhpgafglmhdabDoorGs
namespace Go.Gl
open Go.Sg
theorem front_T_drop (ps : List P) (k r : Nat) (_h : ps[k]? = some (.fix r)) : T (front (ps.take k)) ++ T (Lib.encodeRune (r : Int)) = T (front (ps.take k) ++ Lib.encodeRune (r : Int)) := (T_app _ _).symm
theorem front_take {ps : List P} {k r : Nat} (ha : (ps.take k).all isFix = true) (h : ps[k]? = some (.fix r)) : front (ps.take (k + 1)) = front (ps.take k) ++ Lib.encodeRune (r : Int) := by
  rw [List.take_add_one, h]
  show front (ps.take k ++ [.fix r]) = _
  rw [front_app_all ha]
  simp [front]
theorem front_full {ps : List P} {k : Nat} (ha : (ps.take k).all isFix = true) (h : ps[k]? = none ∨ ∃ p, ps[k]? = some p ∧ isFix p = false) : front ps = front (ps.take k) := by
  have e : ps = ps.take k ++ ps.drop k := (List.take_append_drop _ _).symm
  have h2 : front (ps.drop k) = [] := by
    rcases h with h | ⟨p, hp, hf⟩
    · rw [List.drop_eq_nil_of_le (List.getElem?_eq_none_iff.1 h)]; rfl
    · exact front_stop ps k p hp hf
  rw [congrArg front e, front_app_all ha, h2, List.append_nil]
theorem rs_drop (ps : List P) (star : Bool) (k : Nat) (p : P) (h : ps[k]? = some p) : rs star (ps.drop k) = match p with
    | .any => rs true (ps.drop (k + 1))
    | .one => 63 :: rs star (ps.drop (k + 1))
    | .fix r => (if star then [42] else []) ++ ((if special r then [92] else []) ++ Lib.encodeRune r) ++ rs false (ps.drop (k + 1)) := by
  obtain ⟨hk, he⟩ := List.getElem?_eq_some_iff.1 h
  rw [List.drop_eq_getElem_cons hk, he]
  cases p <;> rfl
end Go.Gl
namespace Go.Proofs
open Go.RowKit Go.Gl
/-- What is read of the document's pattern, wherever the call has gone on to. -/
theorem Tryd.rg_row {w : World} {x : Nat} {ps : List P} (h : Tryd.Rg w 0 x ps) : ∃ v a n c, v = .slice a n c ∧ n = ps.length ∧ w.cell? ⟨x, 0, none⟩ = some v ∧ ∀ k p, ps[k]? = some p → ∃ g, a = some ⟨g, 0, none⟩ ∧ w.cell? ⟨g, k * 2, none⟩ = some (.int .i64 p.kind) ∧ w.cell? ⟨g, k * 2 + 1, none⟩ = some (.string (signT p)) := by
  obtain ⟨v, -, hx, hown, -⟩ := h
  have hc : w.cell? ⟨x, 0, none⟩ = some v := by simp [World.cell?, hx]
  rcases hown.2 with ⟨rfl, h0⟩ | ⟨g, cap, cur, rfl, _⟩
  · exact ⟨_, none, 0, 0, rfl, h0.symm, hc, fun k p hp => by have := (List.getElem?_eq_some_iff.1 hp).1; omega⟩
  · refine ⟨_, _, _, _, rfl, rfl, hc, fun k p hp => ?_⟩
    obtain ⟨hk, he⟩ := List.getElem?_eq_some_iff.1 hp
    refine ⟨g, rfl, ?_, ?_⟩
    · rw [hown.cellAt (k * 2) (by omega), Nat.mul_comm k 2, cellsR_kind ps k hk, he]
    · rw [hown.cellAt (k * 2 + 1) (by omega), Nat.mul_comm k 2, cellsR_sign ps k hk, he]
theorem Gl.enc_le (r : Nat) : (Lib.encodeRune (r : Int)).length ≤ 4 := by have := (Lib.runeCells_le (r : Int)).2; rw [Lib.runeCells_length] at this; exact this
theorem Gl.T_len (l : List UInt8) : (Gl.T l).size = l.length := by simp [Gl.T, ByteArray.size]
theorem Gl.front_len : ∀ (ps : List P), (front ps).length ≤ 4 * ps.length
  | [] => by simp [front]
  | .fix r :: ps => by rw [front, List.length_append, List.length_cons]; have := Gl.front_len ps; have := Gl.enc_le r; omega
  | .one :: ps => by simp [front]
  | .any :: ps => by simp [front]
set_option maxRecDepth 100000 in
set_option maxHeartbeats 4000000 in
theorem Tryd.refFront_any (ps : List P) (x : Nat) (w : World) (h : Tryd.Rg w 0 x ps) (hl : ps.length ≤ 100) :
    Calls Tryd.prog 11 #[.pointer (some ⟨x, 0, none⟩)] w fun e w' => e = .returned (.string (Gl.T (front ps))) ∧ Below w.heap.size w w' := by
  obtain ⟨v, a, n, c, rfl, rfl, hc, hcell⟩ := Tryd.rg_row h
  have HC : Hid _ := hcell
  clear hcell h
  go_enter Tryd.func11, Tryd.ntmps11
  go_wp2
  go_loopw [3, 4] (fun o i wr => ∃ k : Nat, k ≤ ps.length ∧ o = .string (Gl.T (front (ps.take k))) ∧ i = .int .i64 k ∧ wr = w ∧ (ps.take k).all isFix = true) (fun _ i _ => ps.length - (intOf i).toNat)
  case atStart => exact ⟨0, by omega, rfl, rfl, rfl, by simp⟩
  case round =>
    obtain ⟨k, hk, rfl, rfl, rfl, hall⟩ := hrel
    by_cases hlt : k < ps.length
    · obtain ⟨p, hp⟩ : ∃ p, ps[k]? = some p := ⟨_, List.getElem?_eq_getElem hlt⟩
      obtain ⟨g, rfl, ck, cs⟩ := HC.out k p hp
      have b1 : (k : Int) < (ps.length : Int) := by omega
      have hflen : (Gl.T (front (ps.take k))).size ≤ 400 := by
        rw [Gl.T_len]
        have := Gl.front_len (ps.take k)
        have : (ps.take k).length ≤ k := List.length_take_le _ _
        omega
      cases p with
      | fix r =>
        have hft := front_take hall hp
        have hat := all_take ps k (.fix r) hp
        rw [hall] at hat
        have hTT : Gl.T (front (ps.take k)) ++ Gl.T (Lib.encodeRune (r : Int)) = Gl.T (front (ps.take (k + 1))) := by rw [hft, T_app]
        have hrl : (Gl.T (Lib.encodeRune (r : Int))).size ≤ 4 := by rw [Gl.T_len]; exact Gl.enc_le r
        have HTT : Hid _ := hTT
        have HAT : Hid ((ps.take (k + 1)).all isFix = true) := by rw [hat]; rfl
        simp only [P.kind, signT] at ck cs
        clear hft hat hTT hp hall HC
        go_wp2
        go_roundw
        case rel => exact ⟨k + 1, by omega, by rw [← HTT.out], by go_num, trivial, HAT.out⟩
        case measure => simp [intOf]; omega
      | one =>
        have hff := front_full hall (.inr ⟨_, hp, rfl⟩)
        have HFF : Hid _ := hff
        simp only [P.kind, signT] at ck cs
        clear hff hp hall HC
        go_wp2
        go_ret
        exact ⟨Sg.ret_str (by rw [HFF.out]), Below.refl _ _⟩
      | any =>
        have hff := front_full hall (.inr ⟨_, hp, rfl⟩)
        have HFF : Hid _ := hff
        simp only [P.kind, signT] at ck cs
        clear hff hp hall HC
        go_wp2
        go_ret
        exact ⟨Sg.ret_str (by rw [HFF.out]), Below.refl _ _⟩
    · have b1 : ¬ (k : Int) < (ps.length : Int) := by omega
      have hff := front_full hall (.inl (List.getElem?_eq_none_iff.2 (by omega)))
      have HFF : Hid _ := hff
      clear hff hall HC
      go_wp2
      go_ret
      exact ⟨Sg.ret_str (by rw [HFF.out]), Below.refl _ _⟩
set_option maxRecDepth 100000 in
set_option maxHeartbeats 4000000 in
theorem Tryd.refLiteral_any (ps : List P) (x : Nat) (w : World) (h : Tryd.Rg w 0 x ps) (hl : ps.length ≤ 100) :
    Calls Tryd.prog 9 #[.pointer (some ⟨x, 0, none⟩)] w fun e w' => e = .returned (.tuple #[.string (if ps.all isFix = true then Gl.T (front ps) else ⟨#[]⟩), .bool (ps.all isFix)]) ∧ Below w.heap.size w w' := by
  have qf := Tryd.refFront_any ps x w h hl
  obtain ⟨v, a, n, c, rfl, rfl, hc, hcell⟩ := Tryd.rg_row h
  have HC : Hid _ := hcell
  clear hcell h
  generalize hLT : (if ps.all isFix = true then Gl.T (front ps) else ⟨#[]⟩) = LT
  generalize hAB : ps.all isFix = AB
  have HLT : Hid ((if ps.all isFix = true then Gl.T (front ps) else ⟨#[]⟩) = LT) := hLT
  have HAB : Hid (ps.all isFix = AB) := hAB
  clear hLT hAB
  go_enter Tryd.func9, Tryd.ntmps9
  go_wp2
  go_loopw [4] (fun i wr => ∃ k : Nat, k ≤ ps.length ∧ i = .int .i64 k ∧ wr = w ∧ (ps.take k).all isFix = true) (fun i _ => ps.length - (intOf i).toNat)
  case atStart => exact ⟨0, by omega, rfl, rfl, by simp⟩
  case round =>
    obtain ⟨k, hk, rfl, rfl, hall⟩ := hrel
    by_cases hlt : k < ps.length
    · obtain ⟨p, hp⟩ : ∃ p, ps[k]? = some p := ⟨_, List.getElem?_eq_getElem hlt⟩
      obtain ⟨g, rfl, ck, -⟩ := HC.out k p hp
      have b1 : (k : Int) < (ps.length : Int) := by omega
      have hat := all_take ps k p hp
      rw [hall, Bool.true_and] at hat
      have HAT : Hid _ := hat
      have hno : isFix p = false → ps.all isFix = false := fun hf => by
        rw [List.all_eq_false]
        exact ⟨p, List.mem_of_getElem? hp, by rw [hf]; simp⟩
      have HNO : Hid _ := hno
      clear hat hno hp hall HC
      cases p with
      | fix r =>
        simp only [P.kind] at ck
        go_wp2
        go_roundw
        case rel => exact ⟨k + 1, by omega, by go_num, trivial, HAT.out⟩
        case measure => simp [intOf]; omega
      | one =>
        simp only [P.kind] at ck
        go_wp2
        go_ret2
        have hn := HNO.out rfl
        rw [← HLT.out, ← HAB.out, hn]
        exact ⟨rfl, Below.refl _ _⟩
      | any =>
        simp only [P.kind] at ck
        go_wp2
        go_ret2
        have hn := HNO.out rfl
        rw [← HLT.out, ← HAB.out, hn]
        exact ⟨rfl, Below.refl _ _⟩
    · have b1 : ¬ (k : Int) < (ps.length : Int) := by omega
      have hall' : ps.all isFix = true := by rw [List.take_of_length_le (by omega)] at hall; exact hall
      have HA : Hid _ := hall'
      clear hall hall' HC
      go_wp2_with (first | (go_at_call 11; refine qf.mono ?_; clear qf; rintro e1 w1 ⟨rfl, b1'⟩) | fail)
      go_ret2
      rw [← HLT.out, ← HAB.out, HA.out]
      exact ⟨rfl, b1'⟩
end Go.Proofs
