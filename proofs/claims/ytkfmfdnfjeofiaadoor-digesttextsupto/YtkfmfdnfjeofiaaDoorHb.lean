/-
  The document's sum: a word turned.
-/
import Derived.Test.YtkfmfdnfjeofiaaDoorHa
import Derived.Test.YtkfmfdnfjeofiaaDoorVc
namespace Go.Proofs
open Go.RowKit Go.Wi Go.Dg
set_option maxRecDepth 20000 in
theorem Tryd.turned_any (x n : Nat) (hx : x < 4294967296) (hn : n ≤ 32) (w : World) :
    Calls Tryd.prog 41 #[.int .u32 (x : Int), .int .i64 (n : Int)] w fun e w' => e = .returned (.int .u32 ((rot x n : Nat) : Int)) ∧ ∃ m, w' = w.drewN m := by
  have h1 : ¬ (n : Int) < 0 := by omega
  have h2 : ¬ 32 - (n : Int) < 0 := by omega
  go_enter Tryd.func41, Tryd.ntmps41
  go_wp2
  go_quiet (fail)
  all_goals go_wp2
  all_goals go_ret
  refine ⟨?_, _, rfl⟩
  have h3 := u32_or_nat (x / 2 ^ n) (x * 2 ^ (32 - n) % 4294967296) (Nat.lt_of_le_of_lt (Nat.div_le_self _ _) hx) (Nat.mod_lt _ (by decide))
  have e1 : ((x / 2 ^ n : Nat) : Int) = (x : Int) / 2 ^ n := by rw [Int.natCast_ediv, Int.natCast_pow]; rfl
  have e2 : ((x * 2 ^ (32 - n) % 4294967296 : Nat) : Int) = (x : Int) * 2 ^ (32 - n) % 4294967296 := by rw [Int.natCast_emod, Int.natCast_mul, Int.natCast_pow]; rfl
  rw [e1, e2] at h3
  show Ending.returned (.int .u32 _) = _
  rw [h3]
  rfl
/-- Words in a block. -/
def Dg.Ar (T : TypeId) (w : World) (g : Nat) (l : List Nat) : Prop := w.heap[g]? = some (.cells (l.map fun (n : Nat) => Value.int .u32 (n : Int)).toArray T (0, 0))
theorem Dg.Ar.cell {T : TypeId} {w : World} {g : Nat} {l : List Nat} (h : Dg.Ar T w g l) {i : Nat} (hi : i < l.length) : w.cell? ⟨g, i, none⟩ = some (.int .u32 (l[i] : Int)) := by
  rw [cell_of_row _ _ _ _ _ _ h]
  simp [hi]
theorem Dg.Ar.frozen {T : TypeId} {w : World} {g : Nat} {l : List Nat} (h : Dg.Ar T w g l) (i : Nat) : w.frozen? ⟨g, i, none⟩ = false := by
  simp [World.frozen?, show w.heap[g]? = _ from h]
theorem Dg.Ar.set {T : TypeId} {w : World} {g : Nat} {l : List Nat} (h : Dg.Ar T w g l) (i v : Nat) : Dg.Ar T (w.setCell ⟨g, i, none⟩ (.int .u32 (v : Int))) g (l.set i v) := by
  obtain ⟨hlt, hk⟩ := Array.getElem?_eq_some_iff.1 h
  show (w.heap.modify g _)[g]? = _
  rw [Array.getElem?_eq_getElem (by rw [Array.size_modify]; exact hlt), Array.getElem_modify_self, hk]
  simp [List.map_set]
theorem Dg.Ar.keep {T : TypeId} {w w' : World} {g : Nat} {l : List Nat} (h : Dg.Ar T w g l) (e : w'.heap[g]? = w.heap[g]?) : Dg.Ar T w' g l := e.trans h
end Go.Proofs
