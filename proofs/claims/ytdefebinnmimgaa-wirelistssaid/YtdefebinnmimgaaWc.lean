/-
  wider of a row of ints.
-/
import Derived.Test.YtdefebinnmimgaaVz
namespace Go.Proofs
open Go.RowKit Go.Wi
theorem Try.info_int : (Try.prog.info? 3).map (fun i => (i.zero, i.size, i.bytes)) = some (some (.int .i64 0), 1, 8) := by kernel_rfl
/-- 'append' of numbers to a row that is empty. -/
theorem Try.appIntsN {ops : Array Oper} {rest : List Oper} {o : Oper} {a : Act} {Q : Exit → Act → World → Prop} (hgd : o.guard = none) (s y : Operand)
    (ho : o.op = .call { callee := .builtin .append, args := #[s, y], argTypes := #[57, 57] })
    {w : World} {B B2 : Nat} {v0 : Value} {ad : Option Addr} {cap : Nat} {li : List Int} (h0 : w.ownsRow B 3 1 v0 0 []) (h : w.ownsRow B2 3 1 (.slice ad li.length cap) li.length (Wi.ics li)) (hnil : ad = none → cap = 0 ∧ li = [])
    (hs : a.eval s = v0) (hy : a.eval y = .slice ad li.length cap) (hlen : li.length * 8 ≤ 140737488355328) (hB : B ≤ w.heap.size)
    (hK : ∀ ad' cap' w1, w1.ownsRow B 3 1 (.slice ad' li.length cap') li.length (Wi.ics li) → Below B w w1 → wpList Try.prog ops Q rest (a.put o.dst (.slice ad' li.length cap')) w1) : wpList Try.prog ops Q (o :: rest) a w := by
  obtain ⟨i0, hi0, hz0, hz1, hz2⟩ := info_parts Try.info_int
  cases ad with
  | none =>
    obtain ⟨rfl, rfl⟩ := hnil rfl
    refine wpList_append_own_none hgd s y 57 ho B 3 i0 1 Try.underlying57 hi0 _ 0 [] hs h0 hy ?_
    rcases h0.2 with ⟨e, _⟩ | ⟨g, c, cur, e, _⟩
    · subst e
      exact hK none 0 w h0 (Below.refl _ _)
    · subst e
      exact hK _ c w h0 (Below.refl _ _)
  | some d =>
    refine wpList_append_own w hgd s y 57 ho B 3 i0 _ 1 8 Try.underlying57 hi0 hz0 hz1 hz2 rfl (by omega) v0 0 [] hs h0 d li.length cap (Wi.ics li) hy (by rw [Wi.ics_len]; omega) ?_ (Wi.ics_one li) (by unfold maxLen; omega) (by omega) hB ?_
    · rcases h.2 with ⟨e, _⟩ | ⟨g, c, cur, e, _⟩
      · cases e
      · cases e
        exact h.cells (g := g) rfl
    · intro v' w' hown hg _
      rw [Nat.zero_add, List.nil_append] at hown
      have hb : Below B w w' := (Below.refl _ w).grown hg hB fun k e => (h0.lt k e).1
      rcases hown.2 with ⟨rfl, e0⟩ | ⟨g, cap', cur, rfl, _⟩
      · have := hK none 0 w'
        rw [e0] at this hown
        exact this hown hb
      · exact hK _ _ w' hown hb
set_option maxHeartbeats 1000000 in
theorem Try.widerN_any {w : World} {B : Nat} {v : Value} {li : List Int} (h : w.ownsRow B 3 1 v li.length (Wi.ics li)) (room : Nat) (hr : room ≤ 1000000000000) (hl : li.length ≤ 1000000000000) :
    Calls Try.prog 56 #[v, .int .i64 room] w fun e w' => ∃ ad cap, e = .returned (.slice ad li.length cap) ∧ w'.ownsRow w.heap.size 3 1 (.slice ad li.length cap) li.length (Wi.ics li) ∧ Below w.heap.size w w' := by
  have hv : ∃ ad cap, v = .slice ad li.length cap ∧ (ad = none → cap = 0 ∧ li = []) := by
    rcases h.2 with ⟨e, e2⟩ | ⟨g, cap, cur, e, _⟩
    · exact ⟨none, 0, by rw [e2]; exact e, fun _ => ⟨rfl, List.eq_nil_of_length_eq_zero e2⟩⟩
    · exact ⟨_, cap, e, fun h => by cases h⟩
  obtain ⟨ad, cap, rfl, hnil⟩ := hv
  have Hr : Hid (room ≤ 1000000000000) := hr
  have Hl : Hid (li.length ≤ 1000000000000) := hl
  have hw1 : wrap64 (2 * (li.length : Int)) = 2 * (li.length : Int) := Wi.w64 _ (by omega) (by omega)
  have hw2 : wrap64 (2 * (li.length : Int) + 8) = 2 * (li.length : Int) + 8 := Wi.w64 _ (by omega) (by omega)
  obtain ⟨i0, hi0, hz0, hz1, hz2⟩ := info_parts Try.info_int
  clear hr hl
  go_enter Try.func56, Try.ntmps56
  by_cases hc : 2 * li.length + 8 < room
  · have q1 : 2 * (li.length : Int) + 8 < (room : Int) := by omega
    go_wp2_with (first
      | (at_make; refine wpList_make_own _ rfl _ _ 57 rfl w.heap.size 3 i0 (.int .i64 0) 1 Try.underlying57 hi0 hz0 hz1 _ _ _ (2 * li.length + 8) rfl rfl (by omega) (by rw [hz2]; have := Hr.out; have := Hl.out; omega) (by have := Hr.out; have := Hl.out; unfold maxLen; omega) (Nat.le_refl _) ?_; intro w2 hown2 hg2; have hb2 : Below w.heap.size w w2 := (Below.refl _ w).grown hg2 (Nat.le_refl _) (fun k e => by cases e); have hrow2 := Wi.row_heap h fun k e => hb2.block k (h.lt k e).2)
      | (at_builtin; refine Try.appIntsN rfl _ _ rfl hown2 hrow2 hnil rfl rfl (by have := Hl.out; omega) hb2.size ?_; intro ad3 cap3 w3 hown3 hb3)
      | fail)
    go_ret
    exact ⟨_, _, rfl, hown3, hb2.trans hb3⟩
  · have q1 : ¬ 2 * (li.length : Int) + 8 < (room : Int) := by omega
    go_wp2_with (first
      | (at_make; refine wpList_make_own _ rfl _ _ 57 rfl w.heap.size 3 i0 (.int .i64 0) 1 Try.underlying57 hi0 hz0 hz1 _ _ _ (room) rfl rfl (by omega) (by rw [hz2]; have := Hr.out; have := Hl.out; omega) (by have := Hr.out; have := Hl.out; unfold maxLen; omega) (Nat.le_refl _) ?_; intro w2 hown2 hg2; have hb2 : Below w.heap.size w w2 := (Below.refl _ w).grown hg2 (Nat.le_refl _) (fun k e => by cases e); have hrow2 := Wi.row_heap h fun k e => hb2.block k (h.lt k e).2)
      | (at_builtin; refine Try.appIntsN rfl _ _ rfl hown2 hrow2 hnil rfl rfl (by have := Hl.out; omega) hb2.size ?_; intro ad3 cap3 w3 hown3 hb3)
      | fail)
    go_ret
    exact ⟨_, _, rfl, hown3, hb2.trans hb3⟩
end Go.Proofs
