/-
  FEED: what compares: rooms, and counts.
-/
import Derived.Test.YtdhgpkacilcfgaaGreatDoorFdA
import Derived.Laws.StructEq
import Derived.Sort.Grow
namespace Go.Proofs
open Go.RowKit Go.Wi Go.Fd Go.Sort
set_option maxRecDepth 4000 in
theorem Tryz.isNaN_any (a : ByteArray) (w : World) : Calls Tryz.prog 59 #[.string a] w fun e w' => e = .returned (.bool false) ∧ w' = w := by
  go_enter Tryz.func59, Tryz.ntmps59
  go_wp2
  go_ret
  simp
set_option maxRecDepth 4000 in
set_option maxHeartbeats 1000000 in
theorem Tryz.compare_any (a b : ByteArray) (w : World) : Calls Tryz.prog 50 #[.string a, .string b] w fun e w' => e = .returned (.int .i64 (cmpS a b)) ∧ w' = w := by
  have h1 := fun W => Tryz.isNaN_any a W
  have h2 := fun W => Tryz.isNaN_any b W
  go_enter Tryz.func50, Tryz.ntmps50
  go_wp2_with (first
    | (go_at_call_of 59 (Value.string a); refine (h1 _).mono ?_; rintro e w1 ⟨rfl, rfl⟩)
    | (go_at_call_of 59 (Value.string b); refine (h2 _).mono ?_; rintro e w1 ⟨rfl, rfl⟩)
    | fail)
  all_goals
    go_ret
    unfold cmpS
    simp [*]
set_option maxRecDepth 4000 in
set_option maxHeartbeats 1000000 in
theorem Tryz.byRoom_any (x y : Cn) (w : World) : Calls Tryz.prog 33 #[.agg (cnE x).toArray, .agg (cnE y).toArray] w fun e w' => e = .returned (.int .i64 (cnC x y)) ∧ ∃ q os', w' = grow (w.drewN q) os' := by
  have h1 := fun W => Tryz.compare_any x.room y.room W
  show Calls Tryz.prog 33 #[.agg #[.string x.room, .int .i64 x.un, .int .i64 x.hi], .agg #[.string y.room, .int .i64 y.un, .int .i64 y.hi]] w _
  go_enter Tryz.func33, Tryz.ntmps33
  go_wp2_with (first
    | (go_at_call 50; refine (h1 _).mono ?_; rintro e w1 ⟨rfl, rfl⟩)
    | fail)
  go_ret
  rw [alloc_eq_grow, alloc_eq_grow, grow_grow]
  exact ⟨rfl, 0, _, rfl⟩
theorem Tryz.byName_any (x : Cn) (y : ByteArray) (w : World) : Calls Tryz.prog 31 #[.agg (cnE x).toArray, .string y] w fun e w' => e = .returned (.int .i64 (cmpS x.room y)) ∧ ∃ q os', w' = grow (w.drewN q) os' := by
  have h1 := fun W => Tryz.compare_any x.room y W
  show Calls Tryz.prog 31 #[.agg #[.string x.room, .int .i64 x.un, .int .i64 x.hi], .string y] w _
  go_enter Tryz.func31, Tryz.ntmps31
  go_wp2_with (first
    | (go_at_call 50; refine (h1 _).mono ?_; rintro e w1 ⟨rfl, rfl⟩)
    | fail)
  go_ret
  rw [alloc_eq_grow]
  exact ⟨rfl, 0, _, rfl⟩
set_option maxRecDepth 4000 in
theorem Tryz.isNaNi_any (a : Int) (w : World) : Calls Tryz.prog 68 #[.int .i64 a] w fun e w' => e = .returned (.bool false) ∧ w' = w := by
  go_enter Tryz.func68, Tryz.ntmps68
  go_wp2
  go_ret
  simp
set_option maxRecDepth 4000 in
set_option maxHeartbeats 1000000 in
theorem Tryz.comparei_any (a b : Int) (w : World) : Calls Tryz.prog 55 #[.int .i64 a, .int .i64 b] w fun e w' => e = .returned (.int .i64 (cmpI a b)) ∧ w' = w := by
  have h1 := fun W => Tryz.isNaNi_any a W
  have h2 := fun W => Tryz.isNaNi_any b W
  go_enter Tryz.func55, Tryz.ntmps55
  go_wp2_with (first
    | (go_at_call_of 68 (Value.int IntKind.i64 a); refine (h1 _).mono ?_; rintro e w1 ⟨rfl, rfl⟩)
    | (go_at_call_of 68 (Value.int IntKind.i64 b); refine (h2 _).mono ?_; rintro e w1 ⟨rfl, rfl⟩)
    | fail)
  all_goals
    go_ret
    refine ⟨?_, rfl⟩
    unfold cmpI
    simp only [Ending.returned.injEq]
    repeat' split
    all_goals first | rfl | (exfalso; omega) | (exfalso; simp at *; omega)
set_option maxRecDepth 4000 in
set_option maxHeartbeats 1000000 in
theorem Tryz.or_any (a b c : Int) (w : World) (g : Nat) (h0 : w.cell? ⟨g, 0, none⟩ = some (.int .i64 a)) (h1 : w.cell? ⟨g, 1, none⟩ = some (.int .i64 b)) (h2 : w.cell? ⟨g, 2, none⟩ = some (.int .i64 c)) :
    Calls Tryz.prog 54 #[.slice (some ⟨g, 0, none⟩) 3 3] w fun e w' => e = .returned (.int .i64 (if a ≠ 0 then a else if b ≠ 0 then b else c)) ∧ w' = w := by
  have HR : ∃ r, r = (if a ≠ 0 then a else if b ≠ 0 then b else c) := ⟨_, rfl⟩
  obtain ⟨r, hr⟩ := HR
  rw [← hr]
  have HR : Hid (r = (if a ≠ 0 then a else if b ≠ 0 then b else c)) := hr
  clear hr
  go_enter Tryz.func54, Tryz.ntmps54
  go_wp2
  refine wp_loop_rounds 4 ?_
  by_cases ha : a = 0
  · subst ha
    rw [rounds_succ]
    go_wp2
    by_cases hb : b = 0
    · subst hb
      rw [rounds_succ]
      go_wp2
      by_cases hc : c = 0
      · subst hc
        rw [rounds_succ]
        go_wp2
        rw [rounds_succ]
        go_wp2
        go_ret
        have := HR.out
        simp at this
        subst this; exact ⟨rfl, rfl⟩
      · have hc' : (c != 0) = true := by simpa using hc
        rw [rounds_succ]
        go_wp2
        go_ret
        have := HR.out
        simp at this
        subst this; exact ⟨rfl, rfl⟩
    · have hb' : (b != 0) = true := by simpa using hb
      rw [rounds_succ]
      go_wp2
      go_ret
      have := HR.out
      simp [hb] at this
      subst this; exact ⟨rfl, rfl⟩
  · have ha' : (a != 0) = true := by simpa using ha
    rw [rounds_succ]
    go_wp2
    go_ret
    have := HR.out
    simp [ha] at this
    subst this; exact ⟨rfl, rfl⟩
end Go.Proofs
