/-
  The laws' 'tokens', walked.
-/
import Derived.Test.YtejibjeidklnkaaGreatDoorJto
namespace Go.Proofs
open Go.RowKit Go.Jv
theorem Tryz.info_str7 : (Tryz.prog.info? 9).map (fun i => (i.zero, i.size, i.bytes)) = some (some (.string ⟨#[]⟩), 1, 16) := by kernel_rfl
/-- The list under way. -/
structure Tryz.Lu (d : Nat) (w wr : World) (ov : Value) (vs : List V) (body : List ByteArray) : Prop where
  lb : LB d vs body
  row : wr.ownsRow w.heap.size 9 1 ov (body.length + 1) (Jv.tks (tok 91 :: body))
  cn : body.length ≤ vs.length * (Jv.Cn d + 3)
  bn : (flat body).length ≤ vs.length * (Jv.Bn d + 6)
  bel : Below w.heap.size w wr
set_option maxRecDepth 100000 in
set_option maxHeartbeats 4000000 in
theorem Tryz.tokens_leaf {w : World} {rv : Value} {li : List Int} (h : Jv.Iv w rv li) (i d : Nat) (hi : i ≤ 1000000000000) (hl : li.length ≤ 9223372036854775807) (hd : d ≤ 4) (hc : d = 0 ∨ Jv.atv li i % 3 = 0) :
    Calls Tryz.prog 6 #[rv, .int .i64 i, .int .i64 d] w fun e w' => Tryz.TOk d w e w' := by
  have ha := Tryz.at_any h i (by omega) hl
  obtain ⟨ad, cap, rfl, -⟩ := h.ex
  have hlt := Jv.atv_lt li i
  generalize Jv.atv li i = c at *
  have hj : ∃ j : Nat, j < 11 ∧ (c : Int) / 3 % 11 = (j : Int) := ⟨c / 3 % 11, Nat.mod_lt _ (by omega), by omega⟩
  obtain ⟨j, hj1, hj2⟩ := hj
  have hT : ∀ (A : Obj) (X : ByteArray), X.data.toList = pr (Jv.sv j) → X.size ≤ 16 → Tryz.TOk d w (.returned (.slice (some ⟨w.heap.size + 1, 0, none⟩) 1 1)) ((w.alloc A).alloc (.cells #[.string X] 9)) := fun A X h1 h2 => Tryz.leaf_tok d j X h1 h2 A
  have HT : Hid _ := hT
  clear hT h
  have hcc : (d : Int) = 0 ∨ (¬ (d : Int) = 0 ∧ (c : Int) % 3 = 0) := by
    rcases Nat.eq_zero_or_pos d with h0 | h0
    · exact .inl (by omega)
    · exact .inr ⟨by omega, by rcases hc with h1 | h1 <;> omega⟩
  clear hc
  have hj3 : j = 0 ∨ j = 1 ∨ j = 2 ∨ j = 3 ∨ j = 4 ∨ j = 5 ∨ j = 6 ∨ j = 7 ∨ j = 8 ∨ j = 9 ∨ j = 10 := by omega
  clear hj1
  rcases hcc with q0 | ⟨q0, q1⟩
  · rcases hj3 with rfl | rfl | rfl | rfl | rfl | rfl | rfl | rfl | rfl | rfl | rfl
    all_goals
      go_enter Tryz.func6, Tryz.ntmps6
      go_wp2_with (first
        | (go_at_call 7; refine ha.mono ?_; clear ha; rintro e2 w2 ⟨rfl, rfl⟩)
        | fail)
      go_ret
      exact HT.out _ _ (by kernel_rfl) (by decide)
  · rcases hj3 with rfl | rfl | rfl | rfl | rfl | rfl | rfl | rfl | rfl | rfl | rfl
    all_goals
      go_enter Tryz.func6, Tryz.ntmps6
      go_wp2_with (first
        | (go_at_call 7; refine ha.mono ?_; clear ha; rintro e2 w2 ⟨rfl, rfl⟩)
        | fail)
      go_ret
      exact HT.out _ _ (by kernel_rfl) (by decide)
end Go.Proofs
