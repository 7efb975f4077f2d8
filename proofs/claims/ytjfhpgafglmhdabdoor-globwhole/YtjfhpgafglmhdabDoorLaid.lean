import Derived.Test.YtjfhpgafglmhdabDoorSmall
import Derived.Test.YtjfhpgafglmhdabDoorRows
import Derived.Lib.LaidU8
import Derived.Lay
import Derived.OpenShut
namespace Go.Proofs
open Go.RowKit
namespace YtjfhpgafglmhdabDoor
theorem first_eq : Lib.firstData = Rows.laid_unicode_utf8_first := by kernel_rfl
theorem accept_eq : Lib.acceptData = (Rows.laid_unicode_utf8_acceptRanges : DataW Unit) := by kernel_rfl
theorem rowCells : ∀ i, i < 19 → ((Sg.letterCells.toList.drop (i * 4)).take 4) = [Sg.rowF i, Sg.rowL i, Sg.rowS i, Sg.rowP i].map (fun z => Value.int .i32 z)
  | 0, _ => rfl
  | 1, _ => rfl
  | 2, _ => rfl
  | 3, _ => rfl
  | 4, _ => rfl
  | 5, _ => rfl
  | 6, _ => rfl
  | 7, _ => rfl
  | 8, _ => rfl
  | 9, _ => rfl
  | 10, _ => rfl
  | 11, _ => rfl
  | 12, _ => rfl
  | 13, _ => rfl
  | 14, _ => rfl
  | 15, _ => rfl
  | 16, _ => rfl
  | 17, _ => rfl
  | 18, _ => rfl
  | i + 19, h => by omega
theorem rowData : (Rows.laid_tocsin_sign_letterRows : DataW Unit) = .agg ((List.range 19).map fun i => .agg ([Sg.rowF i, Sg.rowL i, Sg.rowS i, Sg.rowP i].map fun z => .lit (.int .i32 z))) := by kernel_rfl
theorem list_by_fours {α : Type} (l1 l2 : List α) (n : Nat) (h1 : l1.length = n * 4) (h2 : l2.length = n * 4) (h : ∀ i, i < n → (l1.drop (i * 4)).take 4 = (l2.drop (i * 4)).take 4) : l1 = l2 := by
  apply List.ext_getElem?
  intro j
  by_cases hj : j < n * 4
  · have e := congrArg (·[j % 4]?) (h (j / 4) (by omega))
    simp only [List.getElem?_take, List.getElem?_drop] at e
    rw [if_pos (by omega), if_pos (by omega), show j / 4 * 4 + j % 4 = j from by omega] at e
    exact e
  · rw [List.getElem?_eq_none (by omega), List.getElem?_eq_none (by omega)]
theorem tabs_of {W : World} {l : List (String × DataW Unit)} (h : laidMet Tryd.prog l W) (hF : ("unicode/utf8.first", Rows.laid_unicode_utf8_first) ∈ l) (hA : ("unicode/utf8.acceptRanges", Rows.laid_unicode_utf8_acceptRanges) ∈ l) (hR : ("tocsin/sign.letterRows", Rows.laid_tocsin_sign_letterRows) ∈ l) : Tryd.Tabs W := by
  have rF := Lib.laidMet.reads h hF
  have rA := Lib.laidMet.reads h hA
  have rR := Lib.laidMet.reads h hR
  rw [← first_eq] at rF
  rw [← accept_eq] at rA
  rw [rowData] at rR
  refine ⟨?_, utf8Tabs_of_reads (ρ := Tryd.lays260_ren) Tryd.lays260 ⟨by kernel_rfl, by kernel_rfl, by kernel_rfl, by kernel_rfl, by kernel_rfl, by kernel_rfl, by kernel_rfl⟩ rF rA⟩
  obtain ⟨g, t, cs, fuel, p, hg, hty, hvar, hd⟩ := rR
  obtain rfl := Option.some.inj ((show Tryd.prog.globalNamed "tocsin/sign.letterRows" = some 0 by kernel_rfl).symm.trans hg)
  obtain rfl := Option.some.inj ((show (Tryd.prog.globals[0]?).map (·.type) = some 95 by kernel_rfl).symm.trans hty)
  have c63 : Tryd.prog.cellsOf 94 = 4 := by kernel_rfl
  have c64 : Tryd.prog.cellsOf 95 = 76 := by kernel_rfl
  have c21 : Tryd.prog.cellsOf 21 = 1 := by kernel_rfl
  have hlen : cs.toList.length = 19 * 4 := by
    obtain ⟨xs, m, _, _, hl, _, _⟩ := DataW.trod_array Tryd.underlying95 hd
    rw [c64] at hl
    exact hl
  have hcs : cs.toList = Sg.letterCells.toList := by
    apply list_by_fours _ _ 19 hlen rfl
    intro i hi
    obtain ⟨fuel', d, q, hdi, he⟩ := Lib.array_elem Tryd.underlying95 hd i hi
    simp only [List.getElem?_map, List.getElem?_range hi, Option.map_some, Option.some.injEq] at hdi
    subst hdi
    rw [c63] at he
    have := Lib.ints_of_struct Tryd.underlying94 (fun j f hj => by
      match j, hj with
      | 0, hj => simp at hj; subst hj; exact ⟨Tryd.underlying21, rfl, c21⟩
      | 1, hj => simp at hj; subst hj; exact ⟨Tryd.underlying21, rfl, c21⟩
      | 2, hj => simp at hj; subst hj; exact ⟨Tryd.underlying21, rfl, c21⟩
      | 3, hj => simp at hj; subst hj; exact ⟨Tryd.underlying21, rfl, c21⟩
      | j + 4, hj => simp at hj) (by rw [c63]; rfl) he
    rw [this, rowCells i hi]
  have hcs' : cs = Sg.letterCells := Array.toList_inj.1 hcs
  subst hcs'
  simp only [World.var?, hg, Option.bind_some] at hvar
  split at hvar
  · rename_i c t fz hh
    cases hvar
    exact ⟨t, fz, hh⟩
  · cases hvar
end YtjfhpgafglmhdabDoor
end Go.Proofs
