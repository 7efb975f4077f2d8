/-
  Arrays of bytes are held against each other.
-/
import Derived.Test.YtbnokhaimcpggaaEq
import Derived.ChangeKeysEq
namespace Go.Proofs
open Go.RowKit Go.Dk
theorem Try.part_u8 (w : World) (xs : List UInt8) (i : Nat) (hi : i < xs.length) : (part 5 (Lib.byteCells xs).toArray (i * 1)).run Try.prog w = .ok (.int .u8 (xs[i].toNat : Nat)) w := by
  obtain ⟨i0, hi0, hz0, hz1, hz2⟩ := info_parts Try.info_u8
  have h1 : (Lib.byteCells xs)[i]? = some (.int .u8 (xs[i].toNat : Nat)) := Dk.byteCell hi
  simp [part, sizeOf, typeInfo, hi0, hz1, h1]
theorem Try.eq_u8 (w : World) (d : Nat) (a b : UInt8) : (Op.equalIn (d + 1) 5 (.int .u8 (a.toNat : Nat)) (.int .u8 (b.toNat : Nat))).run Try.prog w = .ok (decide (a = b)) w := by
  simp only [Op.equalIn, Sem.run_bind, run_underlying Try.underlying5, Result.andThen_ok]
  rw [if_pos trivial]
  by_cases e : a = b
  · subst e; simp
  · have : ¬ a.toNat = b.toNat := fun h => e (UInt8.toNat_inj.1 h)
    have h2 : ((a.toNat : Int) == (b.toNat : Int)) = false := by simp; omega
    simp [e, h2]
theorem Try.cells_u8 : Try.prog.cellsOf 5 = 1 := by kernel_rfl
theorem Try.eq_items (w : World) (d : Nat) (xs ys : List UInt8) (hl : xs.length = ys.length) : ∀ (n k : Nat), k + n = xs.length → (Op.eqItems (d + 1) 5 1 (Lib.byteCells xs).toArray (Lib.byteCells ys).toArray (List.range' k n)).run Try.prog w = .ok (decide (xs.drop k = ys.drop k)) w
  | 0, k, h => by
    rw [List.drop_of_length_le (by omega), List.drop_of_length_le (by omega)]
    simp [Op.eqItems]
  | n + 1, k, h => by
    have ih := Try.eq_items w d xs ys hl n (k + 1) (by omega)
    rw [List.range'_succ, Op.eqItems]
    simp only [Sem.run_bind, Try.part_u8 w xs k (by omega), Try.part_u8 w ys k (by omega), Try.eq_u8, Result.andThen_ok]
    have hd : decide (xs.drop k = ys.drop k) = (decide (xs[k] = ys[k]) && decide (xs.drop (k + 1) = ys.drop (k + 1))) := by
      rw [List.drop_eq_getElem_cons (by omega : k < xs.length), List.drop_eq_getElem_cons (by omega : k < ys.length)]
      simp only [List.cons.injEq, Bool.decide_and]
    rw [hd]
    by_cases e : xs[k] = ys[k]
    · simp only [e, decide_true, Bool.not_true, Bool.false_eq_true, if_false, Bool.true_and, ih]
    · simp [e]
theorem Try.eq_block (w : World) (d : Nat) (xs ys : List UInt8) (hx : xs.length = 64) (hy : ys.length = 64) : (Op.equalIn (d + 2) 134 (.agg (Lib.byteCells xs).toArray) (.agg (Lib.byteCells ys).toArray)).run Try.prog w = .ok (decide (xs = ys)) w := by
  obtain ⟨i0, hi0, hz0, hz1, hz2⟩ := info_parts Try.info_u8
  rw [run_equalIn_array w (d + 1) _ _ Try.underlying134 hi0, Try.cells_u8, List.range_eq_range', Try.eq_items w d xs ys (by omega) 64 0 (by omega)]
  simp
end Go.Proofs
