/-
  FEED: the sheet that a list of counts makes.
-/
import Derived.Test.YtdhgpkacilcfgaaGreatDoorFdE
namespace Go.Fd
open Go.RowKit Go.Wi Go.Sort Go.Proofs
def stab (l : List Cn) : List Cn := (stabA Go.Proofs.Fd.ltR l.toArray).toList
theorem stab_len (l : List Cn) : (stab l).length = l.length := by
  unfold stab
  have := stabA_sz (lt := Go.Proofs.Fd.ltR) l.toArray
  simpa using this
theorem cnCells_get (l : List Cn) (t : Nat) (h : t < l.length * 3) : (cnCells l)[t]? = some ((cnE (l.toArray[t / 3]!))[t % 3]!) := by
  have hi : t / 3 < l.length := by omega
  have h1 := cnCells_at l (t / 3) (t % 3) (by omega) hi
  rw [show t / 3 * 3 + t % 3 = t by omega] at h1
  rw [h1, getElem!_pos l.toArray (t / 3) (by simpa using hi)]
  simp only [List.getElem_toArray]
  rw [getElem!_pos _ _ (by rw [cnE_len]; omega), List.getElem?_eq_getElem (by rw [cnE_len]; omega)]
theorem flat_cn (l : List Cn) : (flatK cnE 3 l.toArray).toList = cnCells l := by
  apply List.ext_getElem?
  intro t
  by_cases h : t < l.length * 3
  · rw [cnCells_get l t h, Array.getElem?_toList]
    rw [Array.getElem?_eq_getElem (by simp [h])]
    rw [← getElem!_pos (flatK cnE 3 l.toArray) t (by simp [h]), get_flatK _ _ _ _ (by simpa using h)]
  · rw [List.getElem?_eq_none (by simp; omega), List.getElem?_eq_none (by rw [cnCells_len]; omega)]
theorem holds_cn {w : World} {g : Nat} {cur : Array Value} {e : TypeId} {l : List Cn} (hb : w.heap[g]? = some (.cells cur e (0, 0))) (ht : cur.toList.take (l.length * 3) = cnCells l) : HoldsK cnE 3 w g 0 l.toArray := by
  intro j hj
  have hj' : j < l.length * 3 := by simpa using hj
  refine ⟨?_, by simp [World.frozen?, hb]⟩
  have h1 : (cur.toList.take (l.length * 3))[j]? = (cnCells l)[j]? := by rw [ht]
  rw [List.getElem?_take_of_lt hj', cnCells_get l j hj'] at h1
  simp only [World.cell?, hb, Nat.zero_add]
  simp only [Option.isSome_none, Bool.false_eq_true, if_false]
  rw [← Array.getElem?_toList, h1, get_flatK _ _ _ _ (by simpa using hj')]
  rfl
theorem take_put (cur F : Array Value) (h : F.size ≤ cur.size) : (putCells id 0 F cur).toList.take F.size = F.toList := by
  apply List.ext_getElem?
  intro j
  by_cases hj : j < F.size
  · rw [List.getElem?_take_of_lt hj, Array.getElem?_toList]
    simp [putCells, hj, show j < cur.size by omega]
  · rw [List.getElem?_take_eq_none (by omega), List.getElem?_eq_none (by simp; omega)]
/-- What a sort leaves of a row. -/
theorem sorted_row {w : World} {B g cap : Nat} {cur : Array Value} {T : TypeId} {l : List Cn} (hB : B ≤ g) (hb : w.heap[g]? = some (.cells cur T (0, 0))) (h1 : l.length ≤ cap) (h2 : cap ≤ maxLen) (h3 : cur.size = cap * 3) (d' : Array Cn) (hds : d'.size = l.length) (n : Nat) (os : Array Obj) :
    (sortWorldK cnE 3 w g 0 n d' os).ownsRow B T 3 (.slice (some ⟨g, 0, none⟩) l.length cap) l.length (cnCells d'.toList) ∧ w.grownBy (sortWorldK cnE 3 w g 0 n d' os) (some g) := by
  have hg : g < w.heap.size := block_lt hb
  have hbk : (sortWorldK cnE 3 w g 0 n d' os).heap[g]? = some (.cells (putCells id 0 (flatK cnE 3 d') cur) T (0, 0)) := by
    unfold sortWorldK putRowK
    rw [heap_grow_old _ _ (by simpa using hg)]
    simp [putRow, mapBlock, Sort.ahead, Array.getElem?_modify, hb, onCells]
  refine ⟨⟨by rw [cnCells_len]; simp [hds], .inr ⟨g, cap, _, rfl, hB, hbk, h1, h2, by simp [putCells, h3], ?_⟩⟩, rfl, rfl, rfl, by unfold sortWorldK putRowK; simp, fun k hk hne => ?_⟩
  · have hsz : (flatK cnE 3 d').size = l.length * 3 := by simp [hds]
    rw [← hsz, take_put _ _ (by rw [hsz, h3]; omega)]
    have := flat_cn d'.toList
    simpa using this
  · unfold sortWorldK putRowK
    rw [heap_grow_old _ _ (by simpa using hk)]
    have : g ≠ k := fun e => hne (by rw [e])
    simp [putRow, mapBlock, Sort.ahead, Array.getElem?_modify, this]
end Go.Fd
namespace Go.Proofs
open Go.RowKit Go.Wi Go.Fd Go.Sort
set_option maxHeartbeats 1000000 in
set_option maxRecDepth 100000 in
theorem Tryz.insertion_none (p : Option Addr) (cap : Nat) (w : World) :
    Calls Tryz.prog 60 #[.slice p 0 cap, .int .i64 0, .int .i64 0, .func (.func 33) #[] #[]] w fun e w' => e = .returned (.tuple #[]) ∧ w' = w := by
  go_enter Tryz.func60, Tryz.ntmps60
  go_wp2
  refine wp_loop_rounds 1 ?_
  rw [rounds_succ]
  go_wp2
  go_end0
  exact ⟨rfl, rfl⟩
set_option maxHeartbeats 1000000 in
set_option maxRecDepth 100000 in
theorem Tryz.stable_none (p : Option Addr) (cap : Nat) (w : World) :
    Calls Tryz.prog 51 #[.slice p 0 cap, .int .i64 0, .func (.func 33) #[] #[]] w fun e w' => e = .returned (.tuple #[]) ∧ w' = w := by
  have hi := fun W => Tryz.insertion_none p cap W
  go_enter Tryz.func51, Tryz.ntmps51
  go_wp2
  refine wp_loop_rounds 1 ?_
  rw [rounds_succ]
  go_wp2_with (first
    | (go_at_call 60; refine (hi _).mono ?_; clear hi; rintro e w1 ⟨rfl, rfl⟩)
    | fail)
  refine wp_loop_rounds 1 ?_
  rw [rounds_succ]
  go_wp2
  go_end0
  exact ⟨rfl, rfl⟩
end Go.Proofs
