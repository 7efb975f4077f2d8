/-
  Laid together by packg.py of Xt.
-/
import Derived.Test.YtjiidkkmnlcpcaaGreatDoorPaQ
import Derived.Test.YtjiidkkmnlcpcaaGreatDoorPXp
import Derived.Shelf.Strings.SplitCore
import Derived.Lib.SplitLaws
namespace Go.Wb
open Go.RowKit Go.Proofs
/-- Texts that lie somewhere. -/
structure Ss (w : World) (V : Value) (L : List (List UInt8)) : Prop where
  ex : ∃ ad cap, V = .slice ad L.length cap ∧ (L = [] ∨ ∃ g, ad = some ⟨g, 0, none⟩ ∧ g < w.heap.size ∧ ∀ j (hj : j < L.length), w.cell? ⟨g, j, none⟩ = some (.string ⟨L[j].toArray⟩))
theorem Ss.ofRow {w : World} {V : Value} {B n : Nat} {T : TypeId} {L : List (List UInt8)} (h : w.ownsRow B T 1 V n (strCells L)) : Ss w V L := by
  have hl := h.1
  rw [strCells_len, Nat.mul_one] at hl
  subst hl
  rcases h.2 with ⟨rfl, h0⟩ | ⟨g, cap, cur, rfl, hB, hg, h1, h2, h3, h4⟩
  · exact ⟨none, 0, by rw [h0], .inl (List.eq_nil_of_length_eq_zero h0)⟩
  · refine ⟨some ⟨g, 0, none⟩, cap, rfl, .inr ⟨g, rfl, Go.Wi.block_lt hg, fun j hj => ?_⟩⟩
    rw [cell_of_row _ _ _ _ _ _ hg]
    have : (strCells L)[j]? = some (.string ⟨L[j].toArray⟩) := by simp [strCells, hj]
    rw [← h4, List.getElem?_take, if_pos (by omega)] at this
    simpa using this
theorem Ss.below {w w' : World} {V : Value} {L : List (List UInt8)} (h : Ss w V L) (g : Below w.heap.size w w') : Ss w' V L := by
  obtain ⟨ad, cap, rfl, h1⟩ := h.ex
  refine ⟨ad, cap, rfl, ?_⟩
  rcases h1 with h1 | ⟨gg, rfl, hg, h1⟩
  · exact .inl h1
  · exact .inr ⟨gg, rfl, Nat.lt_of_lt_of_le hg g.size, fun j hj => (g.cell (p := ⟨gg, j, none⟩) hg).trans (h1 j hj)⟩
/-- Is one of the items of a text this one? -/
def isItem (item o : List UInt8) : Bool := (trim o).map sm == item
theorem any_take_no {α : Type} {l : List α} {p : α → Bool} {i : Nat} (hi : i < l.length) (h : (l.take i).any p = false) (hp : p l[i] = false) : (l.take (i + 1)).any p = false := by
  rw [List.take_add_one, List.getElem?_eq_getElem hi, List.any_append, h]
  simp [hp]
theorem any_yes {α : Type} {l : List α} {p : α → Bool} {i : Nat} (hi : i < l.length) (hp : p l[i] = true) : l.any p = true :=
  List.any_eq_true.2 ⟨l[i], List.getElem_mem hi, hp⟩
theorem items_len_le (l : List UInt8) : (items l).length ≤ l.length + 1 ∧ (items l).length = l.count 44 + 1 := by
  have h := Lib.splitB_data ⟨#[44]⟩ 0 (Lib.count l [44]) ⟨l.toArray⟩
  have h2 := Lib.splitB_all ⟨#[44]⟩ (by decide) 0 _ ⟨l.toArray⟩ rfl
  have e : items l = (Lib.splitB ⟨#[44]⟩ 0 (Lib.count l [44]) ⟨l.toArray⟩).map (·.data.toList) := by rw [h]; rfl
  have e3 : (items l).length = Lib.count l [44] + 1 := by rw [e, List.length_map]; exact h2
  rw [Lib.count_one] at e3
  exact ⟨by rw [e3]; have := List.count_le_length (a := (44 : UInt8)) (l := l); omega, e3⟩
end Go.Wb
namespace Go.Proofs
open Go.RowKit Go.Wi Go.Wb
set_option maxRecDepth 20000 in
set_option maxHeartbeats 400000 in
theorem Tryz.split_any (l : List UInt8) (hl : l.length ≤ 4000000000) (w : World) :
    Calls Tryz.prog 155 #[.string ⟨l.toArray⟩, .string ⟨#[44]⟩] w fun e w' => e = .returned (.slice (some ⟨w.heap.size, 0, none⟩) (items l).length (items l).length) ∧ w' = w.alloc (.cells (strCells (items l)).toArray 9) := by
  have hsz := text_size l
  have hlen := Lib.splitB_all ⟨#[44]⟩ (by decide) 0 _ ⟨l.toArray⟩ rfl
  have hle := Lib.countB_le ⟨#[44]⟩ (by decide) (⟨l.toArray⟩ : ByteArray).size ⟨l.toArray⟩ (Nat.le_refl _)
  have c := Any.strings_genSplit_core Tryz.lays221 (by kernel_rfl) ⟨l.toArray⟩ ⟨#[44]⟩ 0 (-1) (Lib.countB ⟨l.toArray⟩ ⟨#[44]⟩ + 1) w (by rw [hsz]; omega) (by decide) (by decide)
    (fun x cs hx => (Tryz.strings_Index_one x 44 _).mono fun e w' ⟨h1, h2⟩ => ⟨by rw [h1]; congr 2; exact (Lib.index_one _ _).symm, h2⟩)
    ((Tryz.strings_Count_one ⟨l.toArray⟩ 44 w).mono fun e w' ⟨h1, h2⟩ => ⟨by rw [h1]; congr 2; show ((Lib.countByte _ _ : Nat) : Int) = _; congr 1; exact (Lib.count_one _ _).symm, h2⟩)
    (by decide) (by decide) (by rw [if_pos (by decide)]; omega)
  rw [Nat.add_sub_cancel, hlen] at c
  have e1 : items l = (Lib.splitB ⟨#[44]⟩ 0 (Lib.countB ⟨l.toArray⟩ ⟨#[44]⟩) ⟨l.toArray⟩).map (·.data.toList) := by rw [Lib.splitB_data]; rfl
  have e2 : Lib.cellsOf (Lib.splitB ⟨#[44]⟩ 0 (Lib.countB ⟨l.toArray⟩ ⟨#[44]⟩) ⟨l.toArray⟩) (Lib.countB ⟨l.toArray⟩ ⟨#[44]⟩ + 1) = (strCells (items l)).toArray := by
    rw [← hlen, Lib.cellsOf_full, e1]
    congr 1
    simp [strCells]
  have e3 : (items l).length = Lib.countB ⟨l.toArray⟩ ⟨#[44]⟩ + 1 := by rw [e1, List.length_map, hlen]
  rw [e2, ← e3] at c
  have c' : Calls Tryz.prog 160 #[.string ⟨l.toArray⟩, .string ⟨#[44]⟩, .int .i64 0, .int .i64 (-1)] w fun e w' => e = .returned (.slice (some ⟨w.heap.size, 0, none⟩) (items l).length (items l).length) ∧ w' = w.alloc (.cells (strCells (items l)).toArray 9) := c
  clear c e1 e2 e3 hle hlen hsz
  go_enter Tryz.func155, Tryz.ntmps155
  go_wp2_with (first | (go_at_call 160; refine c'.mono ?_; clear c'; rintro e w1 ⟨rfl, rfl⟩) | fail)
  go_ret
  exact ⟨rfl, rfl⟩
theorem Tryz.info256b : (Tryz.prog.info? (Tryz.lays160_ren.t 116)).map (fun i => (i.zero, i.size)) = some (some (.agg (Array.replicate 256 (.bool false))), 256) := by kernel_rfl
theorem Tryz.trim_any (l : List UInt8) (hl : l.length ≤ 9223372036854775807) (w : World) : Calls Tryz.prog 85 #[.string ⟨l.toArray⟩, .string ⟨#[32, 9]⟩] w fun e w' => e = .returned (.string ⟨(trim l).toArray⟩) ∧ Below w.heap.size w w' := by
  have h := Any.strings_Trim_laid Tryz.lays160 Tryz.info256b ⟨l.toArray⟩ ⟨#[32, 9]⟩ w (by show l.toArray.size ≤ _; simpa using hl) (by decide) (ascii_of_all (by decide))
  exact h
end Go.Proofs
