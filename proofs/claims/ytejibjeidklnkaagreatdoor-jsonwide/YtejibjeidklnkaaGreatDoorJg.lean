/-
  CELLS that are written one behind the other; an item put into the midst of a row. Nothing of the program.
-/
import Derived.Test.YtejibjeidklnkaaGreatDoorJw
import Derived.Test.YtejibjeidklnkaaGreatDoorJv
import Derived.Laws.AppendOwn
import Derived.Laws.IdiomCopy
namespace Go.Jv
open Go.RowKit
theorem heap_set {w : World} {b o : Nat} {v : Value} {cur : Array Value} {e : TypeId} {fz : Nat × Nat} (h : w.heap[b]? = some (.cells cur e fz)) : (w.setCell ⟨b, o, none⟩ v).heap[b]? = some (.cells (cur.setIfInBounds o v) e fz) := by
  unfold World.setCell
  simp [Array.getElem?_modify, h]
def over (cur : Array Value) (o : Nat) : List Value → Array Value
  | [] => cur
  | v :: r => over (cur.setIfInBounds o v) (o + 1) r
theorem heap_sets {b : Nat} {e : TypeId} {fz : Nat × Nat} : ∀ (vs : List Value) (o : Nat) (w : World) (cur : Array Value), w.heap[b]? = some (.cells cur e fz) → (w.setCells b o vs).heap[b]? = some (.cells (over cur o vs) e fz)
  | [], _, _, _, h => h
  | v :: r, o, w, cur, h => by
    rw [World.setCells, over]
    exact heap_sets r (o + 1) _ _ (heap_set h)
theorem over_size : ∀ (vs : List Value) (o : Nat) (cur : Array Value), (over cur o vs).size = cur.size
  | [], _, _ => rfl
  | v :: r, o, cur => by rw [over, over_size r]; simp
theorem over_get : ∀ (vs : List Value) (o : Nat) (cur : Array Value) (j : Nat), o + vs.length ≤ cur.size → (over cur o vs)[j]? = if o ≤ j ∧ j < o + vs.length then vs[j - o]? else cur[j]?
  | [], o, cur, j, _ => by rw [over, if_neg (by simp)]
  | v :: r, o, cur, j, h => by
    simp only [List.length_cons] at h
    rw [over, over_get r (o + 1) _ j (by simp; omega)]
    by_cases h1 : o + 1 ≤ j ∧ j < o + 1 + r.length
    · rw [if_pos h1, if_pos (by simp only [List.length_cons]; omega), show j - o = (j - (o + 1)) + 1 by omega]
      rfl
    · rw [if_neg h1]
      by_cases h2 : j = o
      · subst h2
        rw [if_pos (by simp only [List.length_cons]; omega)]
        simp [Array.getElem?_setIfInBounds]
        omega
      · rw [if_neg (by simp only [List.length_cons]; omega), Array.getElem?_setIfInBounds]
        rw [if_neg (by omega)]
theorem heap_sets_other {b k : Nat} (hk : k ≠ b) : ∀ (vs : List Value) (o : Nat) (w : World), (w.setCells b o vs).heap[k]? = w.heap[k]?
  | [], _, _ => rfl
  | v :: r, o, w => by
    rw [World.setCells, heap_sets_other hk r]
    exact Below.heap_setCell w ⟨b, o, none⟩ v k hk
theorem sets_size (b : Nat) : ∀ (vs : List Value) (o : Nat) (w : World), (w.setCells b o vs).heap.size = w.heap.size
  | [], _, _ => rfl
  | v :: r, o, w => by rw [World.setCells, sets_size b r]; simp
theorem sets_rest (b : Nat) : ∀ (vs : List Value) (o : Nat) (w : World), (w.setCells b o vs).os = w.os ∧ (w.setCells b o vs).tape = w.tape ∧ (w.setCells b o vs).output = w.output
  | [], _, _ => ⟨rfl, rfl, rfl⟩
  | v :: r, o, w => by rw [World.setCells]; exact sets_rest b r (o + 1) _
theorem insertAt_len {α : Type} (l : List α) (i : Nat) (x : α) : (insertAt l i x).length = l.length + 1 := by
  unfold insertAt
  simp [List.length_take, List.length_drop]
  omega
theorem insertAt_get {α : Type} (l : List α) (i : Nat) (x : α) (hi : i ≤ l.length) (j : Nat) : (insertAt l i x)[j]? = if j < i then l[j]? else if j = i then some x else l[j - 1]? := by
  unfold insertAt
  by_cases h1 : j < i
  · rw [if_pos h1, List.getElem?_append_left (by rw [List.length_take]; omega), List.getElem?_take, if_pos h1]
  · rw [if_neg h1, List.getElem?_append_right (by rw [List.length_take]; omega), List.length_take, Nat.min_eq_left hi]
    by_cases h2 : j = i
    · subst h2; simp
    · rw [if_neg h2, show j - i = (j - i - 1) + 1 by omega, List.getElem?_cons_succ, List.getElem?_drop]
      congr 1; omega
/-- The row behind both writings. -/
theorem ins_take {cur : Array Value} {xs : List Value} {i : Nat} {x : Value} (hi : i ≤ xs.length) (hs : xs.length + 1 ≤ cur.size) (hc : ∀ j, j < i → cur[j]? = xs[j]?) :
    (over (over cur (i + 1) (xs.drop i)) i [x]).toList.take (xs.length + 1) = insertAt xs i x := by
  apply List.ext_getElem?
  intro j
  rw [List.getElem?_take, insertAt_get xs i x hi]
  have hd : (xs.drop i).length = xs.length - i := List.length_drop
  by_cases hj : j < xs.length + 1
  · rw [if_pos hj, Array.getElem?_toList, over_get [x] i _ j (by rw [over_size]; simp; omega), over_get (xs.drop i) (i + 1) cur j (by omega)]
    simp only [List.length_cons, List.length_nil]
    by_cases h1 : j < i
    · rw [if_neg (by omega), if_neg (by omega), if_pos h1]; exact hc j h1
    · rw [if_neg h1]
      by_cases h2 : j = i
      · subst h2; rw [if_pos (by omega), if_pos rfl]; simp
      · rw [if_neg (by omega), if_pos (by omega), if_neg h2, List.getElem?_drop]
        congr 1; omega
  · rw [if_neg hj, if_neg (by omega), if_neg (by omega), List.getElem?_eq_none (by omega)]
theorem ins_take2 {cur : Array Value} {xs : List Value} {i : Nat} {x : Value} (hi : i ≤ xs.length) (hs : xs.length + 1 ≤ cur.size) (hc : ∀ j, j < i → cur[j]? = xs[j]?) :
    (over (over cur i [x]) (i + 1) (xs.drop i)).toList.take (xs.length + 1) = insertAt xs i x := by
  apply List.ext_getElem?
  intro j
  rw [List.getElem?_take, insertAt_get xs i x hi]
  have hd : (xs.drop i).length = xs.length - i := List.length_drop
  by_cases hj : j < xs.length + 1
  · rw [if_pos hj, Array.getElem?_toList, over_get (xs.drop i) (i + 1) _ j (by rw [over_size]; omega), over_get [x] i cur j (by simp; omega)]
    simp only [List.length_cons, List.length_nil]
    by_cases h1 : j < i
    · rw [if_neg (by omega), if_neg (by omega), if_pos h1]; exact hc j h1
    · rw [if_neg h1]
      by_cases h2 : j = i
      · subst h2; rw [if_neg (by omega), if_pos (by omega), if_pos rfl]; simp
      · rw [if_pos (by omega), if_neg h2, List.getElem?_drop]
        congr 1; omega
  · rw [if_neg hj, if_neg (by omega), if_neg (by omega), List.getElem?_eq_none (by omega)]
end Go.Jv
