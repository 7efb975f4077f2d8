/-
  slices.Grow of none, append of headers.
-/
import Derived.Test.YtflnijbedicbhaaGreatDoorYl
import Derived.Laws.AppendOwnNone
import Derived.Lib.AppendZeros
import Derived.Lib.AppendZerosOnto
import Derived.Lib.SliceRun
namespace Go.Wb
open Go.RowKit Go.Proofs
theorem add_at (g k : Nat) : (⟨g, 0, none⟩ : Addr).add k = ⟨g, k, none⟩ := by
  unfold Addr.add
  split
  · rename_i e; subst e; rfl
  · simp
theorem hdCells_one {l : List (List UInt8 × List UInt8)} : ∀ u ∈ hdCells l, u.oneCell' = true := by
  intro u hu
  unfold hdCells at hu
  obtain ⟨h, _, hu⟩ := List.mem_flatMap.1 hu
  simp at hu
  rcases hu with rfl | rfl <;> rfl
theorem hdCells_at {l : List (List UInt8 × List UInt8)} {j : Nat} {u : Value} (h : (hdCells l)[j]? = some u) : ∃ i, ∃ hi : i < l.length, (j = i * 2 ∧ u = .string ⟨l[i].1.toArray⟩) ∨ (j = i * 2 + 1 ∧ u = .string ⟨l[i].2.toArray⟩) := by
  have hj : j < (hdCells l).length := by
    rcases Nat.lt_or_ge j (hdCells l).length with e | e
    · exact e
    · rw [List.getElem?_eq_none e] at h; cases h
  rw [hdCells_len] at hj
  have hi : j / 2 < l.length := by omega
  obtain ⟨e1, e2⟩ := hd_cell hi
  rcases Nat.mod_two_eq_zero_or_one j with e | e
  · have ej : j = j / 2 * 2 := by omega
    rw [← ej, h] at e1
    exact ⟨j / 2, hi, .inl ⟨ej, Option.some.inj e1⟩⟩
  · have ej : j = j / 2 * 2 + 1 := by omega
    rw [← ej, h] at e2
    exact ⟨j / 2, hi, .inr ⟨ej, Option.some.inj e2⟩⟩
theorem Hs.ofRow {w : World} {V : Value} {B n : Nat} {T : TypeId} {L : List (List UInt8 × List UInt8)} (h : w.ownsRow B T 2 V n (hdCells L)) : Hs w V L := by
  have hl := h.1
  rw [hdCells_len] at hl
  obtain rfl : n = L.length := by omega
  rcases h.2 with ⟨rfl, h0⟩ | ⟨g, cap, cur, rfl, hB, hg, h1, h2, h3, h4⟩
  · exact ⟨⟨none, 0, by rw [h0], .inl (List.eq_nil_of_length_eq_zero h0)⟩, .inl rfl⟩
  · refine ⟨⟨some ⟨g, 0, none⟩, cap, rfl, .inr ⟨g, 0, rfl, Go.Wi.block_lt hg, fun j hj => ?_⟩⟩, .inr ⟨_, _, _, rfl⟩⟩
    obtain ⟨e1, e2⟩ := hd_cell hj
    rw [Nat.zero_add]
    refine ⟨?_, ?_⟩
    · rw [cell_of_row _ _ _ _ _ _ hg, ← e1, ← h4, List.getElem?_take, if_pos (by omega)]; simp
    · rw [cell_of_row _ _ _ _ _ _ hg, ← e2, ← h4, List.getElem?_take, if_pos (by omega)]; simp
end Go.Wb
namespace Go.Proofs
open Go.RowKit Go.Wi Go.Wb
set_option maxRecDepth 20000 in
/-- 'append' of headers. -/
theorem Tryz.appHs {ops : Array Oper} {rest : List Oper} {o : Oper} {a : Act} {Q : Exit → Act → World → Prop} (hgd : o.guard = none) (s y : Operand)
    (ho : o.op = .call { callee := .builtin .append, args := #[s, y], argTypes := #[22, 22] })
    {w : World} {B : Nat} {V Y : Value} {n : Nat} {L0 L1 : List (List UInt8 × List UInt8)} (hrow : w.ownsRow B 61 2 V n (hdCells L0)) (hB : B ≤ w.heap.size) (hs : a.eval s = V) (hY : Hs w Y L1) (hy : a.eval y = Y) (hlen : n + L1.length ≤ 4398046511104)
    (hK : ∀ v' w', w'.ownsRow B 61 2 v' (n + L1.length) (hdCells (L0 ++ L1)) → Below B w w' → wpList Tryz.prog ops Q rest (a.put o.dst v') w') : wpList Tryz.prog ops Q (o :: rest) a w := by
  obtain ⟨i0, hi0, hz0, hz1, hz2⟩ := info_parts Tryz.infoPair
  rcases hY.nz with rfl | ⟨ad, m, c, rfl⟩
  · obtain ⟨ad, cap, e, h⟩ := hY.ex
    injection e with e1 e2 e3
    have e0 : L1 = [] := List.eq_nil_of_length_eq_zero e2.symm
    subst e0
    refine wpList_append_own_none hgd s y _ ho B 61 i0 2 Tryz.underlying22 hi0 V n _ hs hrow hy (hK V w ?_ (Below.refl _ _))
    rw [List.append_nil]
    exact hrow
  · obtain ⟨ad', cap, e, h⟩ := hY.ex
    injection e with e1 e2 e3
    subst e1 e2
    refine wpList_append_own _ hgd s y 22 ho B 61 i0 _ 2 32 Tryz.underlying22 hi0 hz0 hz1 hz2 rfl (by omega) V n _ hs hrow ad L1.length c (hdCells L1) hy (hdCells_len L1) ?_ hdCells_one (by unfold maxLen; omega) (by omega) hB ?_
    · intro j u hu
      obtain ⟨i, hi, hj⟩ := hdCells_at hu
      rcases h with rfl | ⟨g, o, eg, hg, hcell⟩
      · cases hi
      · injection eg with eg
        subst eg
        rcases hj with ⟨rfl, rfl⟩ | ⟨rfl, rfl⟩
        · rw [Addr.add_mid]; exact (hcell i hi).1
        · rw [Addr.add_mid, ← Nat.add_assoc]; exact (hcell i hi).2
    · intro v' w' h1 h2 h3
      rw [← hdCells_app] at h1
      exact hK v' w' h1 ((Below.refl B w).grown h2 (by omega) fun k e => (hrow.lt k e).1)
set_option maxRecDepth 20000 in
set_option maxHeartbeats 400000 in
theorem Tryz.growNil (n : Nat) (hn : n ≤ 4398046511104) (w : World) : Calls Tryz.prog 48 #[.slice none 0 0, .int .i64 n] w fun e w' => ∃ V, e = .returned V ∧ w'.ownsRow w.heap.size 61 2 V 0 (hdCells []) ∧ Below w.heap.size w w' := by
  by_cases h0 : n = 0
  · subst h0
    go_enter Tryz.func48, Tryz.ntmps48
    go_wp2
    go_ret
    exact ⟨_, rfl, World.ownsRow_nil _ _ _ _, Below.refl _ _⟩
  · obtain ⟨i0, hi0, hz0, hz1, hz2⟩ := info_parts Tryz.infoPair
    have h1 : ¬ ((n : Int) < 0) := by omega
    have h4 : (n : Int) > 0 := by omega
    have hrz : ∀ ty, ∃ V w', (Builtin.append_ #[22, 3] ty #[.slice none 0 0, .int .i64 (n : Int)]).run Tryz.prog w = .ok V w' ∧ ∃ g cap, V = .slice (some ⟨g, 0, none⟩) n cap ∧ n ≤ cap ∧ cap ≤ 9223372036854775807 ∧ w'.ownsRow w.heap.size 61 2 (.slice (some ⟨g, 0, none⟩) 0 cap) 0 (hdCells []) ∧ Below w.heap.size w w' := fun ty => by
      have hold : (Builtin.firstCells i0.size 0 (.slice none 0 0)).run Tryz.prog w.drew = .ok ([] : List Value).toArray w.drew := run_firstCells_none w.drew i0.size 0 0 0
      have h := Lib.run_append_grow_zeros (P := Tryz.prog) w 22 3 ty 61 i0 _ .i64 .i64 Tryz.underlying22 Tryz.underlying3 hi0 hz0 none 0 0 [] hold n (by omega) (by omega) (by omega) (by omega) (by rw [hz2]; omega) (growslice_fits (by omega) (by rw [hz2]; omega))
      rw [Nat.zero_add] at h
      refine ⟨_, _, h, _, _, rfl, grownCap_ge _ _ _ _, ?_, ?_, ?_⟩
      · have := grownCap_le_maxLen w n 0 61 (by unfold maxLen; omega)
        unfold maxLen at this
        omega
      · refine World.ownsRow_made w.drew _ _ (Nat.le_refl _) (grownCap_le_maxLen w n 0 61 (by unfold maxLen; omega)) ?_
        have hge := grownCap_ge w n 0 61
        rw [Array.size_append, Array.size_append, size_zeroCells, size_zeroCells]
        show 0 + n * 2 + _ * 2 = _
        omega
      · exact ((Below.refl _ w).drew).alloc (Nat.le_refl _) _
    go_enter Tryz.func48, Tryz.ntmps48
    go_wp2_with (at_builtin; obtain ⟨V, w1, hr, g, cap, rfl, hc1, hc2, hrow, hb⟩ := hrz _; refine Lib.wpList_append_run _ rfl _ _ _ _ rfl _ _ rfl rfl _ _ hr ?_)
    all_goals
      go_ret
      exact ⟨_, rfl, hrow, hb⟩
end Go.Proofs
